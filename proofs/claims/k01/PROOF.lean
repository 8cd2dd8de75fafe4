import PyProof.Rows.All
import Wide.All
import OpenK.AllK
import Wide.FinOn
import Lean
import PyProof.EqAt
import PyProof.EqKinds
import PyProof.TupleCall
import PyProof.Walks
import PyProof.ZipIter
import PyProof.EnumMake
import PyProof.Draws
import PyProof.StationsW
import PyProof.PassesOwn
import PyProof.RulesAs
import PyProof.Rows.TopTwo
import OpenK.KOwn
import PyProof.NsDelKeeps
import KE.KIsAll
import KE.KSortTup
import PyProof.Rows.SetFrom
import PyProof.CollectWalk
import OpenK.KEqL
import PyProof.ListMulRoad
import PyProof.FactsAll.tuple_2
import PySem.Challenge.RW_traylate_k01_steps_told
set_option Elab.async false
set_option linter.all false
set_option maxRecDepth 100000
set_option maxHeartbeats 40000000
set_option genSizeOf false
noncomputable section
-- CHANGE: your row's module here, as the last of these rows
/-! THE HAND LAYER, for ints, bools, texts, own classes, LISTS and tuples (index, slices, in, append, pop ..), calls, loops. Paste it whole ahead of your own text; what your proof does not reach may be deleted. -/
namespace L2
open PySem PySem.Spec PyProof.Rows

/-- a key: an int or a str -/
abbrev Key := Sum Int Str
def keyIs : Key → Value → Bool
  | .inl k, v => Value.isInt k v
  | .inr x, v => Value.isStrOf x v
def keyH (w : World) : Key → Int
  | .inl k => hashInt k
  | .inr x => hashStr w x
theorem keyIs_shape : ∀ {k : Key} {v : Value}, keyIs k v = true → (∃ i t, k = Sum.inl i ∧ v = Value.int i t) ∨ (∃ x t, k = Sum.inr x ∧ v = Value.str x t)
  | .inl i, v, h => by
    obtain ⟨t, e⟩ := Value.isInt_shape (k := i) (v := v) h
    exact .inl ⟨i, t, rfl, e⟩
  | .inr x, v, h => by
    obtain ⟨t, e⟩ := Value.isStrOf_shape (x := x) (v := v) h
    exact .inr ⟨x, t, rfl, e⟩
theorem key_ll (a b : Int) : decide ((Sum.inl a : Key) = Sum.inl b) = (a == b) := by
  by_cases e : a = b
  · subst e; simp
  · have h : ¬ (Sum.inl a : Key) = Sum.inl b := fun q => e (Sum.inl.inj q)
    rw [decide_eq_false h]
    exact (beq_eq_false_iff_ne.mpr e).symm
theorem key_rr (a b : Str) : decide ((Sum.inr a : Key) = Sum.inr b) = decide (a = b) := by
  by_cases e : a = b
  · subst e; simp
  · have h : ¬ (Sum.inr a : Key) = Sum.inr b := fun q => e (Sum.inr.inj q)
    rw [decide_eq_false h, decide_eq_false e]
theorem key_lr (a : Int) (b : Str) : decide ((Sum.inl a : Key) = Sum.inr b) = false := decide_eq_false (fun q => nomatch q)
theorem key_rl (a : Str) (b : Int) : decide ((Sum.inr a : Key) = Sum.inl b) = false := decide_eq_false (fun q => nomatch q)

def mixKind (prog : Program) (w : World) : PySem.KeyKind prog w Key where
  is := keyIs
  hash := keyH w
  inj := fun v a b ha hb => by
    rcases keyIs_shape ha with ⟨i, t, rfl, rfl⟩ | ⟨x, t, rfl, rfl⟩
    · rcases keyIs_shape hb with ⟨j, u, rfl, e⟩ | ⟨y, u, rfl, e⟩
      · injection e with e1 _; rw [e1]
      · exact nomatch e
    · rcases keyIs_shape hb with ⟨j, u, rfl, e⟩ | ⟨y, u, rfl, e⟩
      · exact nomatch e
      · injection e with e1 _; rw [e1]
  byValue := fun k v h => by
    rcases keyIs_shape h with ⟨i, t, rfl, rfl⟩ | ⟨x, t, rfl, rfl⟩ <;> rfl
  pyHash := fun hv h => by
    rcases keyIs_shape hv with ⟨i, t, rfl, rfl⟩ | ⟨x, t, rfl, rfl⟩
    · exact wpAny_pyHash_int h
    · exact wpAny_pyHash_str h
  eqBool := fun hu hv h => by
    rcases keyIs_shape hu with ⟨i, t, rfl, rfl⟩ | ⟨x, t, rfl, rfl⟩
    · rcases keyIs_shape hv with ⟨j, u, rfl, rfl⟩ | ⟨y, u, rfl, rfl⟩
      · rw [key_ll] at h; exact wpAny_eqBool_int h
      · rw [key_lr] at h; exact SeqAt.EqAt.int_str i t y u _ _ _ _ h
    · rcases keyIs_shape hv with ⟨j, u, rfl, rfl⟩ | ⟨y, u, rfl, rfl⟩
      · rw [key_rl] at h; exact SeqAt.EqAt.str_int x t j u _ _ _ _ h
      · rw [key_rr] at h; exact wpAny_eqBool_str h
  «strs» := fun k x t v h => by
    rcases keyIs_shape h with ⟨i, u, rfl, e⟩ | ⟨y, u, rfl, e⟩
    · exact nomatch e
    · injection e with e1 _
      subst e1
      cases v <;> rfl

end L2

namespace L2
open PySem PySem.Spec PyProof.Rows

/-- a value, without the heap -/
inductive V where
  | non | bl (b : Bool) | int (i : Int) | str (x : Str) | byt (b : Array UInt8) | flt (b : UInt64) | ref (a : Addr) | ty (n : String)
  deriving DecidableEq

def RelV : V → Value → Prop
  | .non, u => u = Value.none
  | .bl b, u => u = Value.bool b
  | .int i, u => ∃ t, u = Value.int i t
  | .str x, u => ∃ t, u = Value.str x t
  | .byt b, u => ∃ t, u = Value.bytes b t
  | .flt b, u => ∃ t, u = Value.float b t
  | .ref a, u => u = Value.ref a
  | .ty n, u => u = Value.type n

abbrev Vals : List V → List Value → Prop := Paired RelV
theorem Vals.length {xs : List V} {us : List Value} (r : Vals xs us) : xs.length = us.length := Paired.length r
theorem Vals.get : ∀ {xs : List V} {us : List Value} {i : Nat} {x : V}, Vals xs us → xs[i]? = some x → ∃ u, us[i]? = some u ∧ RelV x u
  | _, _, _, _, .nil, e => by simp at e
  | _, _, 0, _, .cons r _, e => by simp at e; subst e; exact ⟨_, rfl, r⟩
  | _, _, i + 1, x, .cons _ t, e => by
    obtain ⟨u, h1, h2⟩ := Vals.get (i := i) (x := x) t (by simpa using e)
    exact ⟨u, by simpa using h1, h2⟩
theorem Vals.set {x : V} {u : Value} (r : RelV x u) : ∀ {xs : List V} {us : List Value} (i : Nat), Vals xs us → Vals (xs.set i x) (us.set i u)
  | _, _, _, .nil => .nil
  | _, _, 0, .cons _ t => .cons r t
  | _, _, i + 1, .cons q t => .cons q (Vals.set r i t)
theorem Vals.append : ∀ {xs ys : List V} {us ws : List Value}, Vals xs us → Vals ys ws → Vals (xs ++ ys) (us ++ ws)
  | _, _, _, _, .nil, s => s
  | _, _, _, _, .cons r t, s => .cons r (Vals.append t s)
theorem Vals.take : ∀ {xs : List V} {us : List Value} (n : Nat), Vals xs us → Vals (xs.take n) (us.take n)
  | _, _, 0, _ => .nil
  | _, _, _ + 1, .nil => .nil
  | _, _, n + 1, .cons r t => .cons r (Vals.take n t)
theorem Vals.drop : ∀ {xs : List V} {us : List Value} (n : Nat), Vals xs us → Vals (xs.drop n) (us.drop n)
  | _, _, 0, r => r
  | _, _, _ + 1, .nil => .nil
  | _, _, n + 1, .cons _ t => Vals.drop n t
theorem Vals.none_of : ∀ {xs : List V} {us : List Value} {i : Nat}, Vals xs us → xs[i]? = none → us[i]? = none := fun {xs us i} r e => by
  have h1 := r.length
  have h2 : xs.length ≤ i := List.getElem?_eq_none_iff.mp e
  exact List.getElem?_eq_none_iff.mpr (by omega)

def RelO : Option V → Option Value → Prop
  | some v, some u => RelV v u
  | none, none => True
  | _, _ => False
def KV {κ : Type} : List (κ × V) → List (κ × Value) → Prop := Paired fun (p : κ × V) (q : κ × Value) => p.1 = q.1 ∧ RelV p.2 q.2

/-- a key of a dict (00_mix): an int or a text -/
def kV : Key → V
  | .inl i => .int i
  | .inr x => .str x

/-- what stands at a tracked address -/
inductive HO where
  /-- a list -/
  | lst (xs : List V)
  /-- a tuple (never changes) -/
  | tup (xs : List V)
  /-- a dict whose keys are ints and texts; one whose keys are tuples of ints and texts (the empty one is both) -/
  | dK (kvs : List (Key × V)) | dT (kvs : List (List Key × V))
  /-- a set of ints: its members, its size -/
  | set (S : Int → Bool) (n : Nat)
  /-- an instance of the class at C, its dict at dx, its attributes -/
  | ins (C dx : Addr) (fs : List (Str × V))
  /-- the dict of the instance at x -/
  | own (x : Addr)
  /-- the dict of an exception -/
  | xd (fs : List (Str × V))
  /-- a bound method, f of x -/
  | met (f x : Addr)
  /-- a range object lo, lo + 1, .. below hi -/
  | rng (lo hi : Int)
  /-- a thing that is known to the object (the script; a dict while a loop walks it): read, never written while it is so -/
  | frz (o : Obj) (u : HO)
  /-- a code object's table -/
  | tbl (ps : Array Value)
  /-- any other thing, by what is true of its one object (a def of one's own: SetO a S n := HO.ext fun h => ..) -/
  | ext (φ : Heap → Prop)

abbrev Hp := Addr → Option HO
def upd (H : Hp) (a : Addr) (o : HO) : Hp := fun b => if b = a then some o else H b
theorem upd_same {H : Hp} {a : Addr} {o : HO} : upd H a o a = some o := by unfold upd; rw [if_pos rfl]
theorem upd_ne {H : Hp} {a b : Addr} {o : HO} (h : b ≠ a) : upd H a o b = H b := by unfold upd; rw [if_neg h]
theorem upd_upd {H : Hp} {a : Addr} {o u : HO} : upd (upd H a o) a u = upd H a u := by
  funext b; unfold upd; split <;> rfl
/-- two objects of different content stand apart -/
theorem ne_of {H : Hp} {a b : Addr} {o u : HO} (h : H a = some o) (h' : H b = some u) (d : o ≠ u) : a ≠ b := by
  intro e; subst e; rw [h] at h'; exact d (Option.some.inj h')
theorem ne_of_none {H : Hp} {a b : Addr} {o : HO} (h : H a = some o) (h' : H b = none) : a ≠ b := by
  intro e; subst e; rw [h] at h'; cases h'

section
variable (P : Program) (w : World)
def ObjOk (H : Hp) (h : Heap) (a : Addr) : HO → Prop
  | .lst xs => xs.length ≤ sizeLine ∧ ∃ (its : List Value) (n : Nat), Vals xs its ∧ h.get? a = some { cls := .type "list", data := .seq its.toArray n }
  | .tup xs => xs.length ≤ sizeLine ∧ ∃ its : List Value, Vals xs its ∧ IsTup h a its.toArray
  | .dK kvs => kvs.length ≤ sizeLine ∧ (a == sysModules) = false ∧ ∃ vs, KV kvs vs ∧ h.DictOf (mixKind P w) a vs
  | .dT kvs => kvs.length ≤ sizeLine ∧ (a == sysModules) = false ∧ ∃ xs : List (List Key × Addr × Value),
      Paired (fun (p : List Key × V) (q : List Key × Addr × Value) => p.1 = q.1 ∧ H q.2.1 = some (.tup (p.1.map kV)) ∧ RelV p.2 q.2.2) kvs xs ∧
      ∃ o es ep, h.get? a = some o ∧ o.ExactDict ∧ o.data = .dict es ep ∧ es.toList = xs.map (entryOfKey (tupleKind (mixKind P w))) ∧ (xs.map (·.1)).Nodup
  | .set S n => h.SetOf (intKind P w) a S n
  | .ins C dx fs => H dx = some (.own a) ∧ fs.length ≤ 1000 ∧ dx ≠ a ∧ h.get? a = some (PySem.W.instObj C dx) ∧
      ∃ mA, h.Ns1 dx mA ∧ (∀ f, RelO (fs.lookup f) (mA f)) ∧ PySem.Within mA (fs.map (·.1))
  | .own _ => ∃ o, h.get? a = some o
  | .xd fs => ∃ mA, h.Ns1 a mA ∧ ∀ f, RelO (fs.lookup f) (mA f)
  | .rng lo hi => ∃ t u v, h.get? a = some { cls := .type "range", data := .fields #[.int lo t, .int hi u, .int 1 v] }
  | .frz o u => h.get? a = some o ∧ ObjOk H h a u
  | .tbl ps => h.get? a = some { cls := .none, data := .fields ps }
  | .met f x => h.get? a = some (PySem.W.methodObj (.ref f) (.ref x))
  | .ext φ => φ h ∧ (∃ o, h.get? a = some o) ∧ ∀ h1 h2 : Heap, φ h1 → (∀ o, h1.get? a = some o → h2.get? a = some o) → φ h2
/-- the abstract heap is held -/
def HOk (H : Hp) (h : Heap) : Prop := ∀ a o, H a = some o → ObjOk P w H h a o
end

section
variable {P : Program} {w : World} {H H' : Hp} {h h' : Heap} {a : Addr} {o : HO}
theorem ObjOk.lt (x : ObjOk P w H h a o) : a < h.objs.size := by
  cases o with
  | lst xs => obtain ⟨_, _, _, _, e⟩ := x; exact Heap.lt_size e
  | tup xs => obtain ⟨_, _, _, p⟩ := x; exact p.lt
  | dK kvs => obtain ⟨_, _, _, _, o, _, _, e, _⟩ := x; exact Heap.lt_size e
  | dT kvs => obtain ⟨_, _, _, _, o, _, _, e, _⟩ := x; exact Heap.lt_size e
  | set S n => obtain ⟨o, _, _, _, e, _⟩ := x; exact Heap.lt_size e
  | ins C dx fs => obtain ⟨_, _, _, e, _⟩ := x; exact Heap.lt_size e
  | own y => obtain ⟨_, e⟩ := x; exact Heap.lt_size e
  | xd fs => obtain ⟨_, ⟨_, _, _, e, _⟩, _⟩ := x; exact Heap.lt_size e
  | rng lo hi => obtain ⟨_, _, _, e⟩ := x; exact Heap.lt_size e
  | frz ob u => obtain ⟨e, _⟩ := x; exact Heap.lt_size e
  | tbl ps => exact Heap.lt_size (show h.get? a = some _ from x)
  | met f y => exact Heap.lt_size (show h.get? a = some _ from x)
  | ext φ => obtain ⟨_, ⟨_, e⟩, _⟩ := x; exact Heap.lt_size e
theorem Paired.mapP {α β : Type} {F G : α → β → Prop} : ∀ {l₁ : List α} {l₂ : List β}, Paired F l₁ l₂ → (∀ a b, F a b → G a b) → Paired G l₁ l₂
  | _, _, .nil, _ => .nil
  | _, _, .cons r t, f => .cons (f _ _ r) (Paired.mapP t f)
/-- what an object's description leans on: its own object, its own dict, the tuples -/
theorem ObjOk.stay (x : ObjOk P w H h a o) (k : ∀ b u, (b = a ∨ H b = some (.own a)) → h.get? b = some u → h'.get? b = some u)
    (ho : ∀ b, H b = some (.own a) → H' b = some (.own a)) (ht : ∀ b xs, H b = some (.tup xs) → H' b = some (.tup xs)) : ObjOk P w H' h' a o := by
  induction o with
  | lst xs => obtain ⟨z, its, n, r, e⟩ := x; exact ⟨z, its, n, r, k _ _ (.inl rfl) e⟩
  | tup xs => obtain ⟨z, its, r, ob, e, c⟩ := x; exact ⟨z, its, r, ob, k _ _ (.inl rfl) e, c⟩
  | dK kvs => obtain ⟨z, y, vs, r, ob, es, ep, e, c⟩ := x; exact ⟨z, y, vs, r, ob, es, ep, k _ _ (.inl rfl) e, c⟩
  | dT kvs =>
    obtain ⟨z, y, xs, r, ob, es, ep, e, c⟩ := x
    exact ⟨z, y, xs, Paired.mapP r fun p q z => ⟨z.1, ht _ _ z.2.1, z.2.2⟩, ob, es, ep, k _ _ (.inl rfl) e, c⟩
  | set S n => obtain ⟨ob, es, ep, t, e, c⟩ := x; exact ⟨ob, es, ep, t, k _ _ (.inl rfl) e, c⟩
  | ins C dx fs =>
    obtain ⟨d, z, ne, e, mA, ⟨od, es, ep, e2, c⟩, r⟩ := x
    exact ⟨ho _ d, z, ne, k _ _ (.inl rfl) e, mA, ⟨od, es, ep, k _ _ (.inr d) e2, c⟩, r⟩
  | own y => obtain ⟨ob, e⟩ := x; exact ⟨ob, k _ _ (.inl rfl) e⟩
  | xd fs => obtain ⟨mA, ⟨od, es, ep, e, c⟩, r⟩ := x; exact ⟨mA, ⟨od, es, ep, k _ _ (.inl rfl) e, c⟩, r⟩
  | rng lo hi => obtain ⟨t, u, v, e⟩ := x; exact ⟨t, u, v, k _ _ (.inl rfl) e⟩
  | frz ob u ih => obtain ⟨e, q⟩ := x; exact ⟨k _ _ (.inl rfl) e, ih q⟩
  | tbl ps =>
    have e : h.get? a = some { cls := .none, data := .fields ps } := x
    show h'.get? a = some { cls := .none, data := .fields ps }
    exact k a _ (.inl rfl) e
  | met f y =>
    have e : h.get? a = some (PySem.W.methodObj (.ref f) (.ref y)) := x
    show h'.get? a = some (PySem.W.methodObj (.ref f) (.ref y))
    exact k a _ (.inl rfl) e
  | ext φ => obtain ⟨p, ⟨o, e⟩, st⟩ := x; exact ⟨st _ _ p fun o q => k _ _ (.inl rfl) q, ⟨o, k _ _ (.inl rfl) e⟩, st⟩
theorem HOk.lt (x : HOk P w H h) (e : H a = some o) : a < h.objs.size := (x a o e).lt
theorem HOk.fresh (x : HOk P w H h) (e : h.objs.size ≤ a) : H a = none := by
  cases q : H a with
  | none => rfl
  | some u => exact absurd (Nat.lt_of_lt_of_le (x.lt q) e) (Nat.lt_irrefl _)
/-- every object of the heap is kept -/
theorem HOk.kept (x : HOk P w H h) (k : ∀ b u, h.get? b = some u → h'.get? b = some u) : HOk P w H h' := fun a o e =>
  (x a o e).stay (fun b u _ q => k b u q) (fun _ q => q) fun _ _ q => q
/-- a new object is laid and tracked -/
theorem HOk.laid (x : HOk P w H h) (k : ∀ b u, h.get? b = some u → h'.get? b = some u) (hp : h.objs.size ≤ a) (new : ObjOk P w (upd H a o) h' a o) : HOk P w (upd H a o) h' := fun b u e => by
  have hn := x.fresh hp
  by_cases hb : b = a
  · subst hb; rw [upd_same] at e; cases e; exact new
  · rw [upd_ne hb] at e
    exact (x b u e).stay (fun c v _ q => k c v q) (fun c q => by rw [upd_ne (ne_of_none q hn)]; exact q) fun c xs q => by rw [upd_ne (ne_of_none q hn)]; exact q
end

/-- what may be read as u: it is u, or a known u -/
def Rd (H : Hp) (a : Addr) (u : HO) : Prop := H a = some u ∨ ∃ o, H a = some (.frz o u)
theorem Rd.ok {P : Program} {w : World} {H : Hp} {h : Heap} {a : Addr} {u : HO} (r : Rd H a u) (x : HOk P w H h) : ObjOk P w H h a u := by
  rcases r with r | ⟨o, r⟩
  · exact x a u r
  · obtain ⟨_, q⟩ := x a _ r
    exact q
/-- what may be written -/
def Mut : Option HO → Prop
  | some (.lst _) => True
  | some (.dK _) => True
  | some (.dT _) => True
  | some (.set _ _) => True
  | some (.ins _ _ _) => True
  | some (.ext _) => True
  | _ => False
section
variable {P : Program} {w : World} {H : Hp} {h h' : Heap} {x e : Addr} {o' : HO}
/-- the object at e is changed: x itself, or the dict of the instance x -/
theorem HOk.write (ok : HOk P w H h) (mu : Mut (H x)) (he : e = x ∨ H e = some (.own x)) (k : ∀ b u, b ≠ e → h.get? b = some u → h'.get? b = some u) (heo : ∃ u, h'.get? e = some u)
    (new : ObjOk P w (upd H x o') h' x o') : HOk P w (upd H x o') h' := fun b u q => by
  have nown : ∀ c y, H c = some (.own y) → c ≠ x := fun c y r z => by subst z; rw [r] at mu; exact mu
  have ntup : ∀ c xs, H c = some (.tup xs) → c ≠ x := fun c xs r z => by subst z; rw [r] at mu; exact mu
  by_cases hb : b = x
  · subst hb; rw [upd_same] at q; cases q; exact new
  · rw [upd_ne hb] at q
    by_cases hbe : b = e
    · have q' : H b = some (.own x) := by
        rcases he with z | z
        · exact absurd (hbe.trans z) hb
        · rw [hbe]; exact z
      rw [q] at q'; cases q'
      obtain ⟨v, hv⟩ := heo
      exact ⟨v, by rw [hbe]; exact hv⟩
    · refine (ok b u q).stay (fun c v hc r => k c v ?_ r) (fun c r => by rw [upd_ne (nown c b r)]; exact r) fun c xs r => by rw [upd_ne (ntup c xs r)]; exact r
      rcases hc with rfl | hc
      · exact hbe
      · rintro rfl
        rcases he with z | z
        · exact nown c b hc z
        · rw [hc] at z; cases z; exact hb rfl
end

/-! ### kept unless tracked; of the frames at fs (the callers') the slots may change (an exception that passes writes there); of the records at ex (iterators) nothing is said -/
structure Un (fs ex : List Addr) (H H' : Hp) (h h' : Heap) : Prop where
  keep : ∀ b o, h.get? b = some o → H b = none → b ∉ fs → b ∉ ex → h'.get? b = some o
  slot : ∀ b o, h.get? b = some o → H b = none → b ∈ fs → b ∉ ex → ∃ sl, h'.get? b = some { o with slots := sl }
  free : ∀ b o, h.get? b = some o → H b = none → b ∉ ex → H' b = none
  there : ∀ b o, h.get? b = some o → b ∉ ex → ∃ o', h'.get? b = some o'
  tups : ∀ b xs, H b = some (.tup xs) → H' b = some (.tup xs)
  frzs : ∀ b o u, H b = some (.frz o u) → H' b = some (.frz o u)
  tbls : ∀ b ps, H b = some (.tbl ps) → ∃ more, H' b = some (.tbl (ps ++ more))
section
variable {fs fs' ex ex' : List Addr} {H H1 H2 : Hp} {h h1 h2 h' : Heap} {a x e : Addr} {o : HO}
theorem Un.any (u : Un fs ex H H1 h h1) {b : Addr} {ob : Obj} (q : h.get? b = some ob) (n : H b = none) (hx : b ∉ ex) : ∃ sl, h1.get? b = some { ob with slots := sl } := by
  by_cases hb : b ∈ fs
  · exact u.slot b ob q n hb hx
  · exact ⟨ob.slots, u.keep b ob q n hb hx⟩
theorem Un.kept (k : ∀ b u, h.get? b = some u → h'.get? b = some u) : Un fs ex H H h h' :=
  ⟨fun b ob q _ _ _ => k b ob q, fun b ob q _ _ _ => ⟨ob.slots, k b ob q⟩, fun _ _ _ n _ => n, fun b ob q _ => ⟨ob, k b ob q⟩, fun _ _ q => q, fun _ _ _ q => q, fun _ ps q => ⟨#[], by rw [q]; simp⟩⟩
theorem Un.refl : Un fs ex H H h h := Un.kept fun _ _ q => q
theorem Un.laid (k : ∀ b u, h.get? b = some u → h'.get? b = some u) (hp : h.objs.size ≤ a) (hn : H a = none) : Un fs ex H (upd H a o) h h' where
  keep := fun b u q _ _ _ => k b u q
  slot := fun b u q _ _ _ => ⟨u.slots, k b u q⟩
  free := fun b u q n _ => by rw [upd_ne (Nat.ne_of_lt (Nat.lt_of_lt_of_le (Heap.lt_size q) hp))]; exact n
  there := fun b u q _ => ⟨u, k b u q⟩
  tups := fun b xs q => by rw [upd_ne (ne_of_none q hn)]; exact q
  frzs := fun b u xs q => by rw [upd_ne (ne_of_none q hn)]; exact q
  tbls := fun b ps q => ⟨#[], by rw [upd_ne (ne_of_none q hn), q]; simp⟩
theorem Un.write (mu : Mut (H x)) (he : e = x ∨ H e = some (.own x)) (k : ∀ b u, b ≠ e → h.get? b = some u → h'.get? b = some u) (heo : ∃ u, h'.get? e = some u) : Un fs ex H (upd H x o) h h' := by
  have hx : ∀ b, H b = none → b ≠ x := fun b n z => by subst z; rw [n] at mu; exact mu
  have hb : ∀ b, H b = none → b ≠ e := fun b n z => by
    subst z
    rcases he with r | r
    · exact hx b n r
    · rw [n] at r; cases r
  have hm : ∀ b u, H b = some u → ¬ Mut (some u) → b ≠ x := fun b u q nm z => by subst z; rw [q] at mu; exact nm mu
  refine ⟨fun b u q n _ _ => k b u (hb b n) q, fun b u q n _ _ => ⟨u.slots, k b u (hb b n) q⟩, fun b u q n _ => by rw [upd_ne (hx b n)]; exact n, fun b u q _ => ?_,
    fun b xs q => by rw [upd_ne (hm b _ q fun z => z)]; exact q, fun b u xs q => by rw [upd_ne (hm b _ q fun z => z)]; exact q, fun b ps q => ⟨#[], by rw [upd_ne (hm b _ q fun z => z), q]; simp⟩⟩
  by_cases hbe : b = e
  · subst hbe; exact heo
  · exact ⟨u, k b u hbe q⟩
end

/-! ### the heap without what is tracked -/
def trk (h : Heap) (H : Hp) : List Addr := (List.range h.objs.size).filter fun a => (H a).isSome
def hidT (h : Heap) (H : Hp) : Heap := PySem.W.hideAll h (trk h H)
theorem hidT_size (h : Heap) (H : Hp) : (hidT h H).objs.size = h.objs.size := PySem.W.hideAll_size _ _
theorem hidT_get {h : Heap} {H : Hp} {b : Addr} {o : Obj} (e : h.get? b = some o) (n : H b = none) : (hidT h H).get? b = some o :=
  PySem.W.hideAll_get _ e fun hm => by
    have q : (H b).isSome = true := (List.mem_filter.mp hm).2
    rw [n] at q; simp at q
theorem of_hidT {h : Heap} {H : Hp} {b : Addr} {o : Obj} (e : (hidT h H).get? b = some o) : h.get? b = some o ∧ H b = none := by
  have e' : h.get? b = some o := PySem.W.of_hideAll (trk h H) e
  refine ⟨e', ?_⟩
  cases q : H b with
  | none => rfl
  | some x =>
    have hm : b ∈ trk h H := List.mem_filter.mpr ⟨List.mem_range.mpr (Heap.lt_size e'), by simp [q]⟩
    have z : (hidT h H).get? b = none := PySem.W.hideAll_none (trk h H) hm
    rw [z] at e; cases e

/-! ### OpenK's ledger, filled with every new object but one -/
def allNews (g h : Heap) (L : Addr) : List (Addr × Obj) := (List.range h.objs.size).filterMap fun a => if a = L ∨ (g.get? a).isSome = true then none else (h.get? a).map fun o => (a, o)
theorem mem_allNews {g h : Heap} {L a : Addr} {o : Obj} (h1 : a ≠ L) (h2 : g.get? a = none) (h3 : h.get? a = some o) : (a, o) ∈ allNews g h L :=
  List.mem_filterMap.mpr ⟨a, List.mem_range.mpr (Heap.lt_size h3), by simp [h1, h2, h3]⟩
theorem of_mem_allNews {g h : Heap} {L : Addr} {p : Addr × Obj} (hp : p ∈ allNews g h L) : p.1 ≠ L ∧ g.get? p.1 = none ∧ h.get? p.1 = some p.2 := by
  obtain ⟨b, _, e⟩ := List.mem_filterMap.mp hp
  split at e
  · cases e
  · rename_i hn
    cases q : h.get? b with
    | none => rw [q] at e; simp at e
    | some u =>
      rw [q] at e
      simp only [Option.map_some, Option.some.injEq] at e
      subst e
      refine ⟨fun z => hn (.inl z), ?_, q⟩
      show g.get? b = none
      cases r : g.get? b with
      | none => rfl
      | some v => exact (hn (.inr (by simp [r]))).elim
def rest (g h : Heap) (L d : Addr) : List (Addr × Obj) := (allNews g h L).filter fun p => decide (p.1 ≠ d)
theorem rest_ne {g h : Heap} {L d : Addr} : ∀ p ∈ rest g h L d, p.1 ≠ d := fun p hp => of_decide_eq_true (List.mem_filter.mp hp).2
theorem mem_rest {g h : Heap} {L d a : Addr} {o : Obj} (h1 : a ≠ L) (h2 : g.get? a = none) (h3 : h.get? a = some o) (h4 : a ≠ d) : (a, o) ∈ rest g h L d :=
  List.mem_filter.mpr ⟨mem_allNews h1 h2 h3, decide_eq_true h4⟩
theorem news_all {g h : Heap} {L : Addr} : News g L h (allNews g h L) := fun p hp => let ⟨a, b, c⟩ := of_mem_allNews hp; ⟨c, a, b⟩
/-- behind a rule that changed d alone: all else but the frame is kept -/
theorem kept_of_news {g h h' : Heap} {L d : Addr} {m : Str → Option Value} (k : ∀ b o, g.get? b = some o → h.get? b = some o) (F : Fr g L h' m) (N : News g L h' (rest g h L d)) :
    ∀ b o, b ≠ L → b ≠ d → h.get? b = some o → h'.get? b = some o := fun b o h1 h2 e => by
  cases q : g.get? b with
  | some u =>
    have := k b u q
    rw [e] at this; cases this
    exact F.keep b _ q
  | none => exact (N (b, o) (mem_rest h1 q e h2)).1
end L2

namespace L2
open PySem PySem.Spec PyProof.Rows

/-- the module's facts, over the base: the heap at the law's entry without what is tracked there -/
structure Mod (K : PySem.W.Frag) (mg : Str → Option Value) (base : Heap) : Prop where
  kin : K.In base
  glob : base.Ns mainGlobals mg
  blt : ∃ mb, base.Ns builtinsNs mb ∧ ∀ x : Str, x ≠ "__name__" → mb x = bootBuiltins x
  nolimit : base.NoLimit

/-- the context: a def's body (or a comprehension's block) running. base: fixed through the whole law; s₀, H₀: the entry; outer: the frames whose slots others may change (a def's callers); stack: all frames that run;
   ex: iterators that were made ahead of the entry and are walked here (a comprehension's); fn: the names whose cells were made at the entry (a def: all; a comprehension's block: its own); calm: not within an except suite; pn: pins that every state bears; xe: what is wanted of an exception that leaves the code -/
structure Cx where
  prog : Program
  w : World
  K : PySem.W.Frag
  mg : Str → Option Value
  base : Heap
  A : Around
  N : List Str
  s₀ : Shared
  H₀ : Hp
  env : Env
  outer : List Env
  stack : List Env
  ex : List Addr
  fn : Str → Bool
  calm : Bool
  pn : List (Addr × Obj)
  xe : Value → Shared → Prop
/-- the callers' frames -/
def frs (l : List Env) : List Addr := l.filterMap (·.frame)
abbrev Cx.fs (X : Cx) : List Addr := frs X.outer

def Vis (sc : Scope) (x : Str) : Prop := sc.names.lookup x = some .local ∨ sc.names.lookup x = some .cell ∨ sc.names.lookup x = some .free
def Loc (sc : Scope) (x : Str) : Prop := sc.names.lookup x = some .local ∨ sc.names.lookup x = some .cell
def Look (env : Env) (h : Heap) (m : Str → Option Value) (x : Str) (u : Value) : Prop :=
  (env.kindOf x = some .local ∧ m x = some u) ∨ ((env.kindOf x = some .cell ∨ env.kindOf x = some .free) ∧ ∃ c, env.cells.lookup x = some c ∧ h.IsCell c (some u))

structure Cx.Ok (X : Cx) : Prop where
  mod : Mod X.K X.mg X.base
  kind : X.env.scope.kind = .function
  glob : X.env.globals = mainGlobals
  blt : X.env.builtins = builtinsNs
  above : X.s₀.heap.objs.size ≤ X.env.locals
  inj : ∀ x y c, X.env.cells.lookup x = some c → X.env.cells.lookup y = some c → x = y
  has : ∀ x, (X.env.kindOf x = some .cell ∨ X.env.kindOf x = some .free) → ∃ c, X.env.cells.lookup x = some c
  cab : ∀ x c, X.fn x = true → X.env.cells.lookup x = some c → X.s₀.heap.objs.size ≤ c
  hd : X.calm = true → X.A.handled = none
  frames : X.A.frames = some X.stack
  stk : X.stack = X.outer ∨ (X.stack = X.env :: X.outer ∧ X.env.frame = some X.env.locals)
  exf : ∀ b ∈ X.ex, b ≠ X.env.locals ∧ ∀ x c, X.env.cells.lookup x = some c → c ≠ b
  bs : ∀ b o, X.base.get? b = some o → X.s₀.heap.get? b = some o ∧ X.H₀ b = none
  bsz : X.base.objs.size ≤ X.s₀.heap.objs.size
  noex : ∀ b o, X.base.get? b = some o → b ∉ X.ex
  exfs : ∀ b ∈ X.ex, b ∉ X.fs
  funs : X.s₀.heap.FunFrames X.base X.outer
  frf : ∀ b ∈ X.fs, X.H₀ b = none

structure Inv (X : Cx) (pins : List (Addr × Obj)) (σ : List (Option V)) (H : Hp) (s : Shared) : Prop where
  ok : X.Ok
  os : s.os = X.s₀.os
  bare : AllBare s.gens
  base : Un X.fs X.ex X.H₀ H X.s₀.heap s.heap
  loc : ∃ m, s.heap.Ns X.env.locals m ∧ ∀ (i : Nat) (x : Str) (v : V), X.N[i]? = some x → σ[i]? = some (some v) → Vis X.env.scope x → ∃ u, RelV v u ∧ Look X.env s.heap m x u
  cell : ∀ x c, X.env.cells.lookup x = some c → ∃ v, s.heap.IsCell c v
  free : H X.env.locals = none
  freeC : ∀ x c, X.env.cells.lookup x = some c → H c = none
  pin : ∀ p ∈ X.pn ++ pins, s.heap.get? p.1 = some p.2 ∧ H p.1 = none ∧ p.1 ≠ X.env.locals ∧ p.1 ∉ X.fs ∧ ∀ v, p.2.data ≠ .cell v
  hok : HOk X.prog X.w H s.heap
  len : σ.length = X.N.length

section
variable {X : Cx} {pins : List (Addr × Obj)} {σ : List (Option V)} {H H' : Hp} {s : Shared} {h' : Heap}

theorem Cx.Ok.nofr (ok : X.Ok) {b : Addr} {o : Obj} (e : X.base.get? b = some o) : b ∉ X.fs := fun hb => by
  have := (ok.funs.mem hb).1
  rw [e] at this; cases this
theorem Inv.bs (I : Inv X pins σ H s) : ∀ b o, X.base.get? b = some o → s.heap.get? b = some o ∧ H b = none := fun b o e =>
  ⟨I.base.keep b o (I.ok.bs b o e).1 (I.ok.bs b o e).2 (I.ok.nofr e) (I.ok.noex b o e), I.base.free b o (I.ok.bs b o e).1 (I.ok.bs b o e).2 (I.ok.noex b o e)⟩
theorem Inv.bk (I : Inv X pins σ H s) : ∀ b o, X.base.get? b = some o → s.heap.get? b = some o := fun b o e => (I.bs b o e).1
theorem Inv.mod (I : Inv X pins σ H s) : Mod X.K X.mg X.base := I.ok.mod
theorem Inv.kIn (I : Inv X pins σ H s) : X.K.In s.heap := I.ok.mod.kin.keeps I.bk
/-- the frame over the base: for OpenK's rules (K.In X.base is I.mod.kin) -/
theorem Inv.fr (I : Inv X pins σ H s) : ∃ m, Fr X.base X.env.locals s.heap m :=
  let ⟨m, hn, _⟩ := I.loc
  ⟨m, hn, I.bk, Nat.le_trans I.ok.bsz I.ok.above⟩
theorem Inv.lt (I : Inv X pins σ H s) : X.env.locals < s.heap.objs.size := let ⟨_, hn, _⟩ := I.loc; hn.lt
theorem Inv.sz (I : Inv X pins σ H s) : X.s₀.heap.objs.size ≤ s.heap.objs.size := Nat.le_trans I.ok.above (Nat.le_of_lt I.lt)
theorem Inv.nofs (I : Inv X pins σ H s) {a : Addr} (h : s.heap.objs.size ≤ a) : a ∉ X.fs := fun hb => by
  obtain ⟨_, o, ho, _⟩ := I.ok.funs.mem hb
  exact absurd (Nat.lt_of_lt_of_le (Heap.lt_size ho) (Nat.le_trans I.sz h)) (Nat.lt_irrefl _)
theorem Inv.cne (I : Inv X pins σ H s) : ∀ x c, X.env.cells.lookup x = some c → c ≠ X.env.locals := fun x c e z => by
  obtain ⟨v, o, ho, hd⟩ := I.cell x c e
  obtain ⟨m, ⟨o', es, ep, ho', hd', _⟩, _⟩ := I.loc
  rw [z, ho'] at ho; cases ho; rw [hd'] at hd; cases hd
theorem Inv.funs (I : Inv X pins σ H s) : s.heap.FunFrames X.base X.outer := by
  have all : ∀ (l : List Env), (∀ b ∈ frs l, b ∈ X.fs) → X.s₀.heap.FunFrames X.base l → s.heap.FunFrames X.base l := by
    intro l
    induction l with
    | nil => intro _ _; trivial
    | cons env r ih =>
      intro hs hl
      obtain ⟨hk, ⟨L, o, hf, hn, ho, hd⟩, hr⟩ := hl
      have hL : L ∈ X.fs := hs L (by unfold frs; rw [List.filterMap_cons, hf]; exact List.mem_cons_self)
      obtain ⟨sl, e⟩ := I.base.slot L o ho (I.ok.frf L hL) hL fun z => I.ok.exfs L z hL
      exact ⟨hk, ⟨L, _, hf, hn, e, hd⟩, ih (fun b hb => hs b (by unfold frs; rw [List.filterMap_cons, hf]; exact List.mem_cons_of_mem _ hb)) hr⟩
  exact all X.outer (fun _ hb => hb) I.ok.funs

/-- the frames that run, for a call -/
theorem Inv.stack (I : Inv X pins σ H s) : s.heap.FunFrames X.base X.stack := by
  rcases I.ok.stk with e | ⟨e, hf⟩
  · rw [e]; exact I.funs
  · rw [e]
    obtain ⟨m, hn, _⟩ := I.loc
    refine .cons (by rw [I.ok.kind]; decide) hf hn ?_ I.funs
    exact Heap.get?_none_of_le (Nat.le_trans I.ok.bsz I.ok.above)
theorem Inv.stkSub (I : Inv X pins σ H s) : ∀ b ∈ frs X.stack, b ∈ X.env.locals :: X.fs := fun b hb => by
  rcases I.ok.stk with e | ⟨e, hf⟩
  · rw [e] at hb; exact List.mem_cons_of_mem _ hb
  · rw [e] at hb
    unfold frs at hb
    rw [List.filterMap_cons, hf] at hb
    exact hb
theorem Inv.stkFree (I : Inv X pins σ H s) : ∀ b ∈ frs X.stack, H b = none := fun b hb => by
  rcases List.mem_cons.mp (I.stkSub b hb) with e | hb
  · rw [e]; exact I.free
  · obtain ⟨_, o, ho, _⟩ := I.ok.funs.mem hb
    exact I.base.free b o ho (I.ok.frf b hb) fun z => I.ok.exfs b z hb

/-- THE STEP: the untracked objects but the frame and the records at ch are kept (the callers' frames up to slots), the frame's map is kept, the new abstract heap is held -/
theorem Inv.step {g' : Array GenState} {t' : Nat} {d' : Drawn} {ch : List Addr} (I : Inv X pins σ H s)
    (hch : ∀ b ∈ ch, (b ∈ X.ex ∨ X.s₀.heap.objs.size ≤ b) ∧ b ≠ X.env.locals ∧ (∀ x c, X.env.cells.lookup x = some c → c ≠ b) ∧ ∀ p ∈ X.pn ++ pins, p.1 ≠ b)
    (keep : ∀ b o, b ≠ X.env.locals → b ∉ X.fs → b ∉ ch → s.heap.get? b = some o → H b = none → h'.get? b = some o)
    (slot : ∀ b o, b ≠ X.env.locals → b ∈ X.fs → b ∉ ch → s.heap.get? b = some o → H b = none → ∃ sl, h'.get? b = some { o with slots := sl }) (free : ∀ b o, b ∉ ch → s.heap.get? b = some o → H b = none → H' b = none)
    (there : ∀ b o, b ∉ ch → s.heap.get? b = some o → ∃ o', h'.get? b = some o')
    (tups : ∀ b xs, H b = some (.tup xs) → H' b = some (.tup xs)) (frzs : ∀ b o u, H b = some (.frz o u) → H' b = some (.frz o u)) (tbls : ∀ b ps, H b = some (.tbl ps) → ∃ more, H' b = some (.tbl (ps ++ more)))
    (ns : ∀ m, s.heap.Ns X.env.locals m → h'.Ns X.env.locals m) (hok : HOk X.prog X.w H' h') (hg : AllBare g') :
    Inv X pins σ H' { s with heap := h', gens := g', drawn := d', toks := t' } := by
  have neL : ∀ b o, X.s₀.heap.get? b = some o → b ≠ X.env.locals := fun b o e => Nat.ne_of_lt (Nat.lt_of_lt_of_le (Heap.lt_size e) I.ok.above)
  have neC : ∀ b o, X.s₀.heap.get? b = some o → b ∉ X.ex → b ∉ ch := fun b o e hx hb => by
    rcases (hch b hb).1 with z | z
    · exact hx z
    · exact absurd (Nat.lt_of_lt_of_le (Heap.lt_size e) z) (Nat.lt_irrefl _)
  have cellK : ∀ x c, X.env.cells.lookup x = some c → ∀ v, s.heap.IsCell c v → h'.IsCell c v := fun x c e v ⟨o, ho, hd⟩ => by
    have nch : c ∉ ch := fun z => (hch c z).2.2.1 x c e rfl
    by_cases hc : c ∈ X.fs
    · obtain ⟨sl, q⟩ := slot c o (I.cne x c e) hc nch ho (I.freeC x c e)
      exact ⟨_, q, hd⟩
    · exact ⟨o, keep c o (I.cne x c e) hc nch ho (I.freeC x c e), hd⟩
  refine ⟨I.ok, I.os, hg, ⟨fun b o e n hb hx => ?_, fun b o e n hb hx => ?_, fun b o e n hx => ?_, fun b o e hx => ?_, fun b xs e => tups b xs (I.base.tups b xs e), fun b o xs e => frzs b o xs (I.base.frzs b o xs e), fun b ps e => ?_⟩, ?_, fun x c e => ?_, ?_, fun x c e => ?_, fun p hp => ?_, hok, I.len⟩
  · exact keep b o (neL b o e) hb (neC b o e hx) (I.base.keep b o e n hb hx) (I.base.free b o e n hx)
  · obtain ⟨sl, e1⟩ := I.base.slot b o e n hb hx
    obtain ⟨sl', e2⟩ := slot b _ (neL b o e) hb (neC b o e hx) e1 (I.base.free b o e n hx)
    exact ⟨sl', e2⟩
  · obtain ⟨o', e1⟩ := I.base.there b o e hx
    exact free b o' (neC b o e hx) e1 (I.base.free b o e n hx)
  · obtain ⟨o', e1⟩ := I.base.there b o e hx
    exact there b o' (neC b o e hx) e1
  · obtain ⟨m1, e1⟩ := I.base.tbls b ps e
    obtain ⟨m2, e2⟩ := tbls b _ e1
    exact ⟨m1 ++ m2, by rw [e2, Array.append_assoc]⟩
  · obtain ⟨m, hn, hl⟩ := I.loc
    refine ⟨m, ns m hn, fun i x v e1 e2 e3 => ?_⟩
    obtain ⟨u, r, l⟩ := hl i x v e1 e2 e3
    refine ⟨u, r, ?_⟩
    rcases l with l | ⟨k, c, e, z⟩
    · exact .inl l
    · exact .inr ⟨k, c, e, cellK x c e _ z⟩
  · obtain ⟨v, z⟩ := I.cell x c e
    exact ⟨v, cellK x c e v z⟩
  · obtain ⟨m, ⟨o, _, _, ho, _⟩, _⟩ := I.loc
    exact free _ o (fun z => (hch _ z).2.1 rfl) ho I.free
  · obtain ⟨v, o, ho, hd⟩ := I.cell x c e
    exact free c o (fun z => (hch c z).2.2.1 x c e rfl) ho (I.freeC x c e)
  · obtain ⟨e, n, ne, nf, d⟩ := I.pin p hp
    have nch : p.1 ∉ ch := fun z => (hch p.1 z).2.2.2 p hp rfl
    exact ⟨keep p.1 p.2 ne nf nch e n, free p.1 p.2 nch e n, ne, nf, d⟩
/-- .. where the frame's own object is kept too -/
theorem Inv.un {t' : Nat} (I : Inv X pins σ H s) (u : Un X.fs [] H H' s.heap h') (hok : HOk X.prog X.w H' h') : Inv X pins σ H' { s with heap := h', toks := t' } := by
  obtain ⟨m, ⟨o, es, ep, ho, r⟩, _⟩ := id I.loc
  obtain ⟨sl, hL⟩ := u.any ho I.free (by simp)
  exact I.step (g' := s.gens) (d' := s.drawn) (ch := []) (fun _ z => nomatch z) (fun b o _ hb _ e n => u.keep b o e n hb (by simp)) (fun b o _ hb _ e n => u.slot b o e n hb (by simp)) (fun b o _ e n => u.free b o e n (by simp)) (fun b o _ e => u.there b o e (by simp)) u.tups u.frzs u.tbls (fun m' hm => by
    obtain ⟨o', es', ep', ho', r'⟩ := hm
    rw [ho] at ho'; cases ho'
    exact ⟨_, es', ep', hL, r'⟩) hok I.bare
/-- behind a call (or a comprehension's block): the slots of this frame may have changed too, the records at ch may have turned -/
theorem Inv.call {g' : Array GenState} {t' : Nat} {d' : Drawn} {ch : List Addr} (I : Inv X pins σ H s) (u : Un (frs X.stack) ch H H' s.heap h') (hok : HOk X.prog X.w H' h') (hg : AllBare g')
    (hch : ∀ b ∈ ch, (b ∈ X.ex ∨ X.s₀.heap.objs.size ≤ b) ∧ b ≠ X.env.locals ∧ (∀ x c, X.env.cells.lookup x = some c → c ≠ b) ∧ ∀ p ∈ X.pn ++ pins, p.1 ≠ b) :
    Inv X pins σ H' { s with heap := h', gens := g', drawn := d', toks := t' } := by
  obtain ⟨m, ⟨o, es, ep, ho, r⟩, _⟩ := id I.loc
  obtain ⟨sl, hL⟩ := u.any ho I.free fun z => (hch _ z).2.1 rfl
  exact I.step (ch := ch) hch (fun b o hL hb hc e n => u.keep b o e n (fun z => (List.mem_cons.mp (I.stkSub b z)).elim hL hb) hc) (fun b o _ _ hc e n => u.any e n hc) (fun b o hc e n => u.free b o e n hc) (fun b o hc e => u.there b o e hc) u.tups u.frzs u.tbls (fun m' hm => by
    obtain ⟨o', es', ep', ho', r'⟩ := hm
    rw [ho] at ho'; cases ho'
    exact ⟨_, es', ep', hL, r'⟩) hok hg
/-- an untracked record of ours (an iterator) has turned -/
theorem Inv.turned {t' : Nat} {it : Addr} (I : Inv X pins σ H s) (k : ∀ b o, b ≠ it → s.heap.get? b = some o → h'.get? b = some o) (hn : H it = none) (hL : it ≠ X.env.locals)
    (h1 : it ∈ X.ex ∨ X.s₀.heap.objs.size ≤ it) (h2 : ∀ x c, X.env.cells.lookup x = some c → c ≠ it) (h3 : ∀ p ∈ X.pn ++ pins, p.1 ≠ it) : Inv X pins σ H { s with heap := h', toks := t' } := by
  have nit : ∀ b u, H b = some u → b ≠ it := fun b u e z => by rw [z, hn] at e; cases e
  refine I.step (g' := s.gens) (d' := s.drawn) (ch := [it]) (fun b hb => ?_) (fun b o _ _ hc e _ => k b o (fun z => hc (by simp [z])) e) (fun b o _ _ hc e _ => ⟨o.slots, k b o (fun z => hc (by simp [z])) e⟩) (fun _ _ _ _ n => n)
    (fun b o hc e => ⟨o, k b o (fun z => hc (by simp [z])) e⟩) (fun _ _ e => e) (fun _ _ _ e => e) (fun b ps e => ⟨#[], by rw [e]; simp⟩) (fun m hm => ?_) (fun b u e => ?_) I.bare
  · have e : b = it := by simpa using hb
    subst e
    exact ⟨h1, hL, h2, h3⟩
  · obtain ⟨o, es, ep, ho, r⟩ := hm
    exact ⟨o, es, ep, k _ o (Ne.symm hL) ho, r⟩
  · refine (I.hok b u e).stay (fun c v hc q => k c v ?_ q) (fun _ q => q) fun _ _ q => q
    rcases hc with z | z
    · rw [z]; exact nit b u e
    · exact nit c _ z
theorem Inv.tok (I : Inv X pins σ H s) (t : Nat) : Inv X pins σ H { s with toks := t } := I.un (h' := s.heap) (t' := t) Un.refl I.hok
/-- all objects kept -/
theorem Inv.kept {t' : Nat} (I : Inv X pins σ H s) (k : ∀ b u, s.heap.get? b = some u → h'.get? b = some u) : Inv X pins σ H { s with heap := h', toks := t' } := I.un (Un.kept k) (I.hok.kept k)
/-- a new object laid and tracked -/
theorem Inv.laid {a : Addr} {o : HO} {t' : Nat} (I : Inv X pins σ H s) (k : ∀ b u, s.heap.get? b = some u → h'.get? b = some u) (hp : s.heap.objs.size ≤ a) (new : ObjOk X.prog X.w (upd H a o) h' a o) :
    Inv X pins σ (upd H a o) { s with heap := h', toks := t' } := I.un (Un.laid k hp (I.hok.fresh hp)) (I.hok.laid k hp new)
/-- an object written -/
theorem Inv.write {x e : Addr} {o : HO} {t' : Nat} (I : Inv X pins σ H s) (mu : Mut (H x)) (he : e = x ∨ H e = some (.own x)) (k : ∀ b u, b ≠ e → s.heap.get? b = some u → h'.get? b = some u) (heo : ∃ u, h'.get? e = some u)
    (new : ObjOk X.prog X.w (upd H x o) h' x o) : Inv X pins σ (upd H x o) { s with heap := h', toks := t' } := I.un (Un.write mu he k heo) (I.hok.write mu he k heo new)
/-- forgetting slots, pins -/
theorem Inv.weak {σ' : List (Option V)} (I : Inv X pins σ H s) (hl : σ'.length = σ.length) (w : ∀ (i : Nat) v, σ'[i]? = some (some v) → σ[i]? = some (some v)) : Inv X pins σ' H s :=
  ⟨I.ok, I.os, I.bare, I.base, let ⟨m, hn, hl'⟩ := I.loc; ⟨m, hn, fun i x v e1 e2 e3 => hl' i x v e1 (w i v e2) e3⟩, I.cell, I.free, I.freeC, I.pin, I.hok, hl.trans I.len⟩
theorem Inv.pins_of {pins' : List (Addr × Obj)} (I : Inv X pins σ H s) (h : ∀ p ∈ pins', s.heap.get? p.1 = some p.2 ∧ H p.1 = none ∧ p.1 ≠ X.env.locals ∧ p.1 ∉ X.fs ∧ ∀ v, p.2.data ≠ .cell v) : Inv X pins' σ H s :=
  ⟨I.ok, I.os, I.bare, I.base, I.loc, I.cell, I.free, I.freeC, fun p hp => (List.mem_append.mp hp).elim (fun z => I.pin p (List.mem_append_left _ z)) (h p), I.hok, I.len⟩

theorem nodup_ix {N : List Str} (hN : N.Nodup) {i j : Nat} {x : Str} (a : N[i]? = some x) (b : N[j]? = some x) : i = j := by
  obtain ⟨h1, e1⟩ := List.getElem?_eq_some_iff.mp a
  obtain ⟨h2, e2⟩ := List.getElem?_eq_some_iff.mp b
  exact (List.getElem_inj hN).mp (e1.trans e2.symm)

/-- a name is stored; what changed -/
theorem store_ok2 {M : Model} {A : Around} {E : Value → Shared → Prop} {i : Nat} {x : Str} {v : V} {u : Value} {Q : Unit → Shared → Prop} (I : Inv X pins σ H s) (hN : X.N.Nodup) (hi : X.N[i]? = some x) (hx : Loc X.env.scope x) (r : RelV v u)
    (h : ∀ s', Inv X pins (σ.set i (some v)) H s' → (∃ a, Heap.SameBut a s.heap s'.heap ∧ (a = X.env.locals ∨ X.env.cells.lookup x = some a)) → Q () s') (hf : X.fn x = true ∨ X.env.scope.names.lookup x = some .local := by first | exact .inl rfl | exact .inr rfl | assumption) : wpAny M A (storeName X.env x u) Q E s := by
  obtain ⟨m, hn, hl⟩ := id I.loc
  have hcls : (X.env.scope.kind == .class || (X.env.scope.kind == .module && X.env.locals != X.env.globals)) = false := by rw [I.ok.kind]; rfl
  have hiσ : i < σ.length := by rw [I.len]; exact (List.getElem?_eq_some_iff.mp hi).1
  have cne := I.cne
  have tracked : ∀ {a : Addr} {h' : Heap}, (∃ o, s.heap.get? a = some o ∧ H a = none) → Heap.SameBut a s.heap h' → HOk X.prog X.w H h' := fun {a h'} ha hs b ob e => by
    obtain ⟨_, _, hfree⟩ := ha
    refine (I.hok b ob e).stay (fun c w' hc q => (hs.2 c ?_).trans q) (fun _ q => q) fun _ _ q => q
    rintro rfl
    rcases hc with rfl | hc
    · rw [hfree] at e; cases e
    · rw [hfree] at hc; cases hc
  rcases hx with hk | hk
  · refine wpAny_storeName_local hk hn (fun h' hn' hs => ?_) hcls
    obtain ⟨oL, _, _, hoL, _⟩ := id hn
    refine h _ ⟨I.ok, I.os, I.bare, ⟨fun b o e n hb hx => ?_, fun b o e n hb hx => ?_, I.base.free, fun b o e hx => ?_, I.base.tups, I.base.frzs, I.base.tbls⟩, ⟨_, hn', fun j y v' e1 e2 e3 => ?_⟩, fun y c e => ?_, I.free, I.freeC, fun p hp => ?_, tracked ⟨oL, hoL, I.free⟩ hs, by simpa using I.len⟩ ⟨_, hs, .inl rfl⟩
    · exact (hs.2 b (Nat.ne_of_lt (Nat.lt_of_lt_of_le (Heap.lt_size e) I.ok.above))).trans (I.base.keep b o e n hb hx)
    · obtain ⟨sl, e1⟩ := I.base.slot b o e n hb hx
      exact ⟨sl, (hs.2 b (Nat.ne_of_lt (Nat.lt_of_lt_of_le (Heap.lt_size e) I.ok.above))).trans e1⟩
    · obtain ⟨o', e1⟩ := I.base.there b o e hx
      exact ⟨o', (hs.2 b (Nat.ne_of_lt (Nat.lt_of_lt_of_le (Heap.lt_size e) I.ok.above))).trans e1⟩
    · by_cases hj : j = i
      · subst hj
        rw [hi] at e1; cases e1
        rw [List.getElem?_set_self hiσ] at e2
        cases e2
        exact ⟨u, r, .inl ⟨hk, by simp⟩⟩
      · rw [List.getElem?_set_ne (Ne.symm hj)] at e2
        obtain ⟨u', r', q⟩ := hl j y v' e1 e2 e3
        refine ⟨u', r', ?_⟩
        rcases q with ⟨k, e⟩ | ⟨k, c, e, z⟩
        · refine .inl ⟨k, ?_⟩
          have : y ≠ x := fun e => hj (nodup_ix hN e1 (e ▸ hi))
          simp [this, e]
        · exact .inr ⟨k, c, e, z.sameBut hs (cne y c e)⟩
    · obtain ⟨w', z⟩ := I.cell y c e
      exact ⟨w', z.sameBut hs (cne y c e)⟩
    · obtain ⟨e, n, ne, nf, d⟩ := I.pin p hp
      exact ⟨(hs.2 p.1 ne).trans e, n, ne, nf, d⟩
  · have hfn : X.fn x = true := by
      rcases hf with z | z
      · exact z
      · rw [z] at hk; cases hk
    obtain ⟨c, hc⟩ := I.ok.has x (.inl hk)
    obtain ⟨w', z⟩ := I.cell x c hc
    refine wpAny_storeName_cell I.ok.kind hk hc z (fun h' hc' hs => ?_)
    obtain ⟨oc, hoc, hocd⟩ := id z
    refine h { s with heap := h' } ⟨I.ok, I.os, I.bare, ⟨fun b o e n hb hx => ?_, fun b o e n hb hx => ?_, I.base.free, fun b o e hx => ?_, I.base.tups, I.base.frzs, I.base.tbls⟩, ⟨m, hn.sameBut hs (Ne.symm (cne x c hc)), fun j y v' e1 e2 e3 => ?_⟩, fun y c' e => ?_, I.free, I.freeC, fun p hp => ?_, tracked ⟨oc, hoc, I.freeC x c hc⟩ hs, by simpa using I.len⟩ ⟨c, hs, .inr hc⟩
    · exact (hs.2 b (Nat.ne_of_lt (Nat.lt_of_lt_of_le (Heap.lt_size e) (I.ok.cab x c hfn hc)))).trans (I.base.keep b o e n hb hx)
    · obtain ⟨sl, e1⟩ := I.base.slot b o e n hb hx
      exact ⟨sl, (hs.2 b (Nat.ne_of_lt (Nat.lt_of_lt_of_le (Heap.lt_size e) (I.ok.cab x c hfn hc)))).trans e1⟩
    · obtain ⟨o', e1⟩ := I.base.there b o e hx
      exact ⟨o', (hs.2 b (Nat.ne_of_lt (Nat.lt_of_lt_of_le (Heap.lt_size e) (I.ok.cab x c hfn hc)))).trans e1⟩
    · by_cases hj : j = i
      · subst hj
        rw [hi] at e1; cases e1
        rw [List.getElem?_set_self hiσ] at e2
        cases e2
        exact ⟨u, r, .inr ⟨.inl hk, c, hc, hc'⟩⟩
      · rw [List.getElem?_set_ne (Ne.symm hj)] at e2
        obtain ⟨u', r', q⟩ := hl j y v' e1 e2 e3
        refine ⟨u', r', ?_⟩
        rcases q with q | ⟨k, c', e, z'⟩
        · exact .inl q
        · refine .inr ⟨k, c', e, z'.sameBut hs ?_⟩
          rintro rfl
          exact hj (nodup_ix hN e1 (I.ok.inj _ _ _ e hc ▸ hi))
    · by_cases hcc : c' = c
      · subst hcc; exact ⟨_, hc'⟩
      · obtain ⟨w2, z2⟩ := I.cell y c' e
        exact ⟨w2, z2.sameBut hs hcc⟩
    · obtain ⟨e, n, ne, nf, d⟩ := I.pin p hp
      refine ⟨(hs.2 p.1 ?_).trans e, n, ne, nf, d⟩
      intro q
      rw [q, hoc] at e
      have q' : oc = p.2 := Option.some.inj e
      exact d w' (by rw [← q']; exact hocd)
theorem store_ok {M : Model} {A : Around} {E : Value → Shared → Prop} {i : Nat} {x : Str} {v : V} {u : Value} {Q : Unit → Shared → Prop} (I : Inv X pins σ H s) (hN : X.N.Nodup) (hi : X.N[i]? = some x) (hx : Loc X.env.scope x) (r : RelV v u)
    (h : ∀ s', Inv X pins (σ.set i (some v)) H s' → Q () s') (hf : X.fn x = true ∨ X.env.scope.names.lookup x = some .local := by first | exact .inl rfl | exact .inr rfl | assumption) : wpAny M A (storeName X.env x u) Q E s :=
  store_ok2 I hN hi hx r (fun s' I' _ => h s' I') hf
/-- behind a call or a block, the state as it is -/
theorem Inv.call' {s' : Shared} {ch : List Addr} (I : Inv X pins σ H s) (ho : s'.os = s.os) (u : Un (frs X.stack) ch H H' s.heap s'.heap) (hok : HOk X.prog X.w H' s'.heap) (hg : AllBare s'.gens)
    (hch : ∀ b ∈ ch, (b ∈ X.ex ∨ X.s₀.heap.objs.size ≤ b) ∧ b ≠ X.env.locals ∧ (∀ x c, X.env.cells.lookup x = some c → c ≠ b) ∧ ∀ p ∈ X.pn ++ pins, p.1 ≠ b) : Inv X pins σ H' s' := by
  obtain ⟨h', g', d', t', o'⟩ := s'
  have e : o' = s.os := ho
  subst e
  exact I.call (g' := g') (t' := t') (d' := d') u hok hg hch
end

/-! ### the judgements -/
/-- an exception: its class, its own dict's address (where it has one), the abstract heap behind it -/
abbrev XK := Value → Option Addr → Hp → Prop
abbrev St := List (Option V)
abbrev VK := V → Hp → Prop
/-- an expression's reading; a test's; an argument list's -/
abbrev TE := St → Hp → VK → Prop
abbrev TT := St → Hp → (Bool → Hp → Prop) → Prop
abbrev TA := St → Hp → (List V → Hp → Prop) → Prop
/-- what is wanted behind a statement -/
structure Ends where
  nx : St → Hp → Prop
  rt : VK
  bk : St → Hp → Prop := fun _ _ => False
  ct : St → Hp → Prop := fun _ _ => False
abbrev TS := Ends → St → Hp → Prop

def EP (X : Cx) (pins : List (Addr × Obj)) (σ : St) (Q : VK) (u : Value) (s' : Shared) : Prop := ∃ v H', Inv X pins σ H' s' ∧ RelV v u ∧ Q v H'
def TP (X : Cx) (pins : List (Addr × Obj)) (σ : St) (Q : Bool → Hp → Prop) (b : Bool) (s' : Shared) : Prop := ∃ H', Inv X pins σ H' s' ∧ Q b H'
def AP (X : Cx) (pins : List (Addr × Obj)) (σ : St) (Q : List V → Hp → Prop) (us : List Value) (s' : Shared) : Prop := ∃ vs H', Inv X pins σ H' s' ∧ Vals vs us ∧ Q vs H'
def SP (X : Cx) (pins : List (Addr × Obj)) (D : Ends) (f : Flow) (s' : Shared) : Prop :=
  match f with
  | .next => ∃ σ' H', Inv X pins σ' H' s' ∧ D.nx σ' H'
  | .brk => ∃ σ' H', Inv X pins σ' H' s' ∧ D.bk σ' H'
  | .cont => ∃ σ' H', Inv X pins σ' H' s' ∧ D.ct σ' H'
  | .ret u => ∃ v σ' H', Inv X pins σ' H' s' ∧ RelV v u ∧ D.rt v H'

def PE (X : Cx) (e : Expr) (t : TE) : Prop :=
  ∀ (pins : List (Addr × Obj)) (s : Shared) (σ : St) (H : Hp) (Q : VK), Inv X pins σ H s → t σ H Q → wpAny (model X.prog X.w) X.A (eval e X.env) (EP X pins σ Q) X.xe s
def PT (X : Cx) (e : Expr) (t : TT) : Prop :=
  ∀ (pins : List (Addr × Obj)) (s : Shared) (σ : St) (H : Hp) (Q : Bool → Hp → Prop), Inv X pins σ H s → t σ H Q → wpAny (model X.prog X.w) X.A (isTrue e X.env (eval e X.env)) (TP X pins σ Q) X.xe s
/-- a test whatever its 'whole' is (and, or) -/
def PW (X : Cx) (e : Expr) (t : TT) : Prop :=
  ∀ (whole : Sem Value) (pins : List (Addr × Obj)) (s : Shared) (σ : St) (H : Hp) (Q : Bool → Hp → Prop), Inv X pins σ H s → t σ H Q → wpAny (model X.prog X.w) X.A (isTrue e X.env whole) (TP X pins σ Q) X.xe s
theorem PW.pt {X : Cx} {e : Expr} {t : TT} (h : PW X e t) : PT X e t := h _
/-- an argument list (no star), from the left -/
def PA (X : Cx) (es : List Expr) (t : TA) : Prop :=
  ∀ (pos : Pos) (pins : List (Addr × Obj)) (s : Shared) (σ : St) (H : Hp) (Q : List V → Hp → Prop), Inv X pins σ H s → t σ H Q → wpAny (model X.prog X.w) X.A (spliced (backTo pos (starEach es X.env))) (AP X pins σ Q) X.xe s
def PS (X : Cx) (st : Stmt) (t : TS) : Prop :=
  ∀ (pins : List (Addr × Obj)) (s : Shared) (σ : St) (H : Hp) (D : Ends), Inv X pins σ H s → t D σ H → wpAny (model X.prog X.w) X.A (exec st X.env) (SP X pins D) X.xe s
def PSs (X : Cx) (st : List Stmt) (t : TS) : Prop :=
  ∀ (pins : List (Addr × Obj)) (s : Shared) (σ : St) (H : Hp) (D : Ends), Inv X pins σ H s → t D σ H → wpAny (model X.prog X.w) X.A (execs st X.env) (SP X pins D) X.xe s
/-- weaken the end -/
theorem thn {α : Type} {t : Sem α} {Q Q' : α → Shared → Prop} {M : Model} {A : Around} {E : Value → Shared → Prop} {s : Shared} (h : wpAny M A t Q E s) (hQ : ∀ a s, Q a s → Q' a s) : wpAny M A t Q' E s := wpAny_mono h hQ fun _ _ x => x
end L2

namespace L2
open PySem PySem.Spec PyProof.Rows
section
variable {X : Cx}


/-! ### names and constants -/
def tVar (i : Nat) : TE := fun σ H Q => ∃ v, σ[i]? = some (some v) ∧ Q v H
def tC (v : V) : TE := fun _ H Q => Q v H
theorem pe_var {i : Nat} {x : Str} {pos : Pos} (hN : X.N[i]? = some x) (hv : Vis X.env.scope x) (hd : (x == ("__debug__" : Str)) = false := by decide) (hcd : (x == ("__classdict__" : Str)) = false := by decide) : PE X (.Name x pos) (tVar i) := by
  intro pins s σ H Q I h
  obtain ⟨v, e, h⟩ := h
  obtain ⟨m, hn, hl⟩ := I.loc
  obtain ⟨u, r, l⟩ := hl i x v hN e hv
  have fin : EP X pins σ Q u s := ⟨v, H, I, r, h⟩
  rcases l with ⟨hk, hm⟩ | ⟨hk, c, hc, hcell⟩
  · exact wpAny_Name (wpAny_loadName_local I.ok.kind hk hn hm fin) hd
  · rcases hk with hk | hk
    · exact wpAny_Name (wpAny_loadName_cell I.ok.kind hk hc hcell fin) hd
    · exact wpAny_Name (wpAny_loadName_free I.ok.kind hk hc hcell fin hcd) hd
theorem pe_int {i j pos} : PE X (.Constant (.int i) j pos) (tC (.int i)) := fun _ _ _ H _ I h => wpAny_Constant_int ⟨.int i, H, I.tok _, ⟨_, rfl⟩, h⟩
theorem pe_bl {b j pos} : PE X (.Constant (.bool b) j pos) (tC (.bl b)) := fun _ _ _ H _ I h => Constant_bool ⟨.bl b, H, I, rfl, h⟩
theorem pe_non {j pos} : PE X (.Constant .none j pos) (tC .non) := fun _ _ _ H _ I h => Constant_none ⟨.non, H, I, rfl, h⟩
theorem pe_str {x j pos} : PE X (.Constant (.str x) j pos) (tC (.str x)) := fun _ _ _ H _ I h => Calls.Constant_str ⟨.str x, H, I.tok _, ⟨_, rfl⟩, h⟩

/-- a global name of the def -/
def Gl (X : Cx) (x : Str) : Prop := X.env.kindOf x = some .globalImplicit
theorem ld_glob {E : Value → Shared → Prop} {pins : List (Addr × Obj)} {s : Shared} {σ : St} {H : Hp} {x : Str} {u : Value} {pos : Pos} {Q : Value → Shared → Prop} (I : Inv X pins σ H s) (hg : Gl X x) (hm : X.mg x = some u) (h : Q u s)
    (hd : (x == ("__debug__" : Str)) = false := by decide) : wpAny (model X.prog X.w) X.A (eval (.Name x pos) X.env) Q E s :=
  Calls.Name_function_global I.ok.kind hg (Calls.loadGlobal_global (by rw [I.ok.glob]; exact I.mod.glob.keeps I.bk) hm h) hd
theorem ld_blt {E : Value → Shared → Prop} {pins : List (Addr × Obj)} {s : Shared} {σ : St} {H : Hp} {x : Str} {u : Value} {pos : Pos} {Q : Value → Shared → Prop} (I : Inv X pins σ H s) (hg : Gl X x) (hm : X.mg x = none) (hv : bootBuiltins x = some u) (h : Q u s)
    (hn : x ≠ "__name__" := by decide) (hd : (x == ("__debug__" : Str)) = false := by decide) : wpAny (model X.prog X.w) X.A (eval (.Name x pos) X.env) Q E s := by
  obtain ⟨mb, h1, h2⟩ := I.mod.blt
  exact Calls.Name_function_global I.ok.kind hg (Calls.loadGlobal_builtin (by rw [I.ok.glob]; exact I.mod.glob.keeps I.bk) hm (by rw [I.ok.blt]; exact h1.keeps I.bk) ((h2 x hn).trans hv) h) hd
/-- a module's constant, a class, a function, as a value -/
theorem pe_glob {x : Str} {v : V} {u : Value} {pos : Pos} (hg : Gl X x) (hm : X.mg x = some u) (r : RelV v u) (hd : (x == ("__debug__" : Str)) = false := by decide) : PE X (.Name x pos) (tC v) :=
  fun _ _ _ H _ I h => ld_glob I hg hm ⟨v, H, I, r, h⟩ hd
theorem pe_bltn {x : Str} {v : V} {u : Value} {pos : Pos} (hg : Gl X x) (hm : X.mg x = none) (hv : bootBuiltins x = some u) (r : RelV v u) (hn : x ≠ "__name__" := by decide) (hd : (x == ("__debug__" : Str)) = false := by decide) : PE X (.Name x pos) (tC v) :=
  fun _ _ _ H _ I h => ld_blt I hg hm hv ⟨v, H, I, r, h⟩ hn hd

/-! ### arithmetic -/
variable {a b : Expr} {ta tb : TE} {pos : Pos}

/-! ### comparisons -/
/-- a comparison as a value, as a test -/
def tB (t : TE) : TT := fun σ H Q => t σ H fun x H1 => ∃ c, x = .bl c ∧ Q c H1
/-- an expression whose value is a bool, as a test -/
theorem pt_val {e : Expr} {t : TE} (h : PE X e t) (he : ∀ whole, isTrue e X.env whole = (do let v ← whole; standAt e.pos; holding [v] (truthy v)) := by intro _; rfl) : PT X e (tB t) := by
  intro pins s σ H Q I hw
  refine isTrue_plain (thn (h pins s σ H _ I hw) fun v s1 ⟨x, H1, I1, r1, q1⟩ => ?_) (he _)
  obtain ⟨d, rfl, q⟩ := q1
  cases r1
  exact wpAny_truthy_bool ⟨H1, I1, q⟩

/-! ### and, or, not -/
variable {tA tB' : TT} {rest : List Expr}
def tAnd (t u : TT) : TT := fun σ H Q => t σ H fun c H1 => if c = true then u σ H1 Q else Q false H1
def tOr (t u : TT) : TT := fun σ H Q => t σ H fun c H1 => if c = true then Q true H1 else u σ H1 Q
def tNot (t : TT) : TT := fun σ H Q => t σ H fun c H1 => Q (!c) H1
theorem pw_and1 (ha : PT X a tA) : PW X (.BoolOp .And [a] pos) tA := by
  intro wh pins s σ H Q I h
  refine isTrue_and (thn (ha pins s σ H Q I h) fun c s1 e => ?_)
  cases c with
  | true => exact isTrue_and_nil e
  | false => exact e
theorem pw_or1 (ha : PT X a tA) : PW X (.BoolOp .Or [a] pos) tA := by
  intro wh pins s σ H Q I h
  refine isTrue_or (thn (ha pins s σ H Q I h) fun c s1 e => ?_)
  cases c with
  | false => exact isTrue_or_nil e
  | true => exact e
theorem pw_and (ha : PT X a tA) (hb : PW X (.BoolOp .And (b :: rest) pos) tB') : PW X (.BoolOp .And (a :: b :: rest) pos) (tAnd tA tB') := by
  intro wh pins s σ H Q I h
  refine isTrue_and (thn (ha pins s σ H _ I h) fun c s1 ⟨H1, I1, q1⟩ => ?_)
  cases c with
  | true => exact hb wh pins s1 σ H1 Q I1 q1
  | false => exact ⟨H1, I1, q1⟩
theorem pw_or (ha : PT X a tA) (hb : PW X (.BoolOp .Or (b :: rest) pos) tB') : PW X (.BoolOp .Or (a :: b :: rest) pos) (tOr tA tB') := by
  intro wh pins s σ H Q I h
  refine isTrue_or (thn (ha pins s σ H _ I h) fun c s1 ⟨H1, I1, q1⟩ => ?_)
  cases c with
  | true => exact ⟨H1, I1, q1⟩
  | false => exact hb wh pins s1 σ H1 Q I1 q1
theorem pt_not (ha : PT X a tA) : PT X (.UnaryOp .Not a pos) (tNot tA) := by
  intro pins s σ H Q I h
  exact isTrue_not (ha pins s σ H (fun c H1 => Q (!c) H1) I h)
/-- .. as values (bools) -/
def tAndV (ta tb : TE) : TE := fun σ H Q => ta σ H fun x H1 => ∃ c, x = .bl c ∧ if c = true then tb σ H1 Q else Q (.bl false) H1
def tOrV (ta tb : TE) : TE := fun σ H Q => ta σ H fun x H1 => ∃ c, x = .bl c ∧ if c = true then Q (.bl true) H1 else tb σ H1 Q
def tNotV (ta : TE) : TE := fun σ H Q => ta σ H fun x H1 => ∃ c, x = .bl c ∧ Q (.bl (!c)) H1
theorem pe_one {op} {t : TE} (h : PE X a t) : PE X (.BoolOp op [a] pos) t := fun pins s σ H Q I hw => BoolOp_one (h pins s σ H Q I hw)
theorem pe_and (ha : PE X a ta) (hb : PE X (.BoolOp .And (b :: rest) pos) tb) : PE X (.BoolOp .And (a :: b :: rest) pos) (tAndV ta tb) := by
  intro pins s σ H Q I h
  refine BoolOp_and (thn (ha pins s σ H _ I h) fun v s1 ⟨x, H1, I1, r1, q1⟩ => ?_)
  obtain ⟨c, rfl, q1⟩ := q1
  cases r1
  refine wpAny_truthy_bool ?_
  cases c with
  | true => exact hb pins s1 σ H1 Q I1 q1
  | false => exact ⟨.bl false, H1, I1, rfl, q1⟩
theorem pe_or (ha : PE X a ta) (hb : PE X (.BoolOp .Or (b :: rest) pos) tb) : PE X (.BoolOp .Or (a :: b :: rest) pos) (tOrV ta tb) := by
  intro pins s σ H Q I h
  refine BoolOp_or (thn (ha pins s σ H _ I h) fun v s1 ⟨x, H1, I1, r1, q1⟩ => ?_)
  obtain ⟨c, rfl, q1⟩ := q1
  cases r1
  refine wpAny_truthy_bool ?_
  cases c with
  | false => exact hb pins s1 σ H1 Q I1 q1
  | true => exact ⟨.bl true, H1, I1, rfl, q1⟩
theorem pe_not (ha : PE X a ta) : PE X (.UnaryOp .Not a pos) (tNotV ta) := by
  intro pins s σ H Q I h
  refine UnaryOp_ (thn (ha pins s σ H _ I h) fun v s1 ⟨x, H1, I1, r1, q1⟩ => ?_)
  obtain ⟨c, rfl, q1⟩ := q1
  cases r1
  exact not_of (wpAny_truthy_bool ⟨.bl (!c), H1, I1, rfl, q1⟩)
end
end L2

namespace L2
open PySem PySem.Spec PyProof.Rows

/-! ### a list, a tuple that is read: tracked, frozen, or an object of the module -/
def SqL (K : PySem.W.Frag) (H : Hp) (a : Addr) (xs : List V) : Prop :=
  Rd H a (.lst xs) ∨
    ∃ (o : Obj) (its : Array Value) (n : Nat), K.lookup a = some o ∧ o.cls = .type "list" ∧ o.dict = none ∧ o.data = .seq its n ∧ its.size ≤ sizeLine ∧ Vals xs its.toList
def SqT (K : PySem.W.Frag) (H : Hp) (a : Addr) (xs : List V) : Prop :=
  Rd H a (.tup xs) ∨
    ∃ (o : Obj) (its : Array Value) (n : Nat), K.lookup a = some o ∧ o.cls = .type "tuple" ∧ o.data = .seq its n ∧ its.size ≤ sizeLine ∧ Vals xs its.toList
def absV : Value → Option V
  | .none => some .non
  | .bool b => some (.bl b)
  | .int i _ => some (.int i)
  | .str x _ => some (.str x)
  | .bytes b _ => some (.byt b)
  | .float b _ => some (.flt b)
  | .ref a => some (.ref a)
  | .type n => some (.ty n)
  | _ => none
theorem RelV.abs {x : V} {u : Value} (r : RelV x u) : absV u = some x := by
  cases x with
  | non => cases r; rfl
  | bl _ => cases r; rfl
  | int _ => obtain ⟨t, rfl⟩ := r; rfl
  | str _ => obtain ⟨t, rfl⟩ := r; rfl
  | byt _ => obtain ⟨t, rfl⟩ := r; rfl
  | flt _ => obtain ⟨t, rfl⟩ := r; rfl
  | ref _ => cases r; rfl
  | ty _ => cases r; rfl
theorem RelV.inj {x y : V} {u : Value} (r : RelV x u) (q : RelV y u) : x = y := Option.some.inj (r.abs.symm.trans q.abs)
theorem Vals.inj : ∀ {xs ys : List V} {us : List Value}, Vals xs us → Vals ys us → xs = ys
  | _, _, _, .nil, .nil => rfl
  | _, _, _, .cons r t, .cons r' t' => by rw [r.inj r', Vals.inj t t']
section
variable {X : Cx} {pins : List (Addr × Obj)} {σ : St} {H : Hp} {s : Shared} {a : Addr} {xs ys : List V}
theorem SqL.of {K : PySem.W.Frag} (h : H a = some (.lst xs)) : SqL K H a xs := .inl (.inl h)
theorem SqT.of {K : PySem.W.Frag} (h : H a = some (.tup xs)) : SqT K H a xs := .inl (.inl h)
theorem Inv.list (I : Inv X pins σ H s) (h : SqL X.K H a xs) : ∃ its : List Value, Vals xs its ∧ PlainL s.heap a its.toArray ∧ xs.length ≤ sizeLine := by
  rcases h with h | ⟨o, its, n, hk, hc, hd, hs, hz, r⟩
  · obtain ⟨z, its, n, r, e⟩ := h.ok I.hok
    exact ⟨its, r, ⟨_, n, e, rfl, rfl, rfl⟩, z⟩
  · refine ⟨its.toList, r, ⟨o, n, I.kIn a o hk, hc, hd, by simpa using hs⟩, ?_⟩
    have e := r.length
    simp only [Array.length_toList] at e
    omega
theorem Inv.tuple (I : Inv X pins σ H s) (h : SqT X.K H a xs) : ∃ its : List Value, Vals xs its ∧ IsTup s.heap a its.toArray ∧ xs.length ≤ sizeLine := by
  rcases h with h | ⟨o, its, n, hk, hc, hs, hz, r⟩
  · obtain ⟨z, its, r, p⟩ := h.ok I.hok
    exact ⟨its, r, p, z⟩
  · refine ⟨its.toList, r, ⟨o, I.kIn a o hk, hc, n, by simpa using hs⟩, ?_⟩
    have e := r.length
    simp only [Array.length_toList] at e
    omega
theorem Inv.list_inj (I : Inv X pins σ H s) (h : SqL X.K H a xs) (h' : SqL X.K H a ys) : xs = ys := by
  obtain ⟨its, r, ⟨o, n, e, _, _, d⟩, _⟩ := I.list h
  obtain ⟨its', r', ⟨o', n', e', _, _, d'⟩, _⟩ := I.list h'
  rw [e] at e'; cases e'
  rw [d] at d'
  injection d' with d1 _
  have : its = its' := by simpa using congrArg Array.toList d1
  subst this
  exact r.inj r'
theorem Inv.tuple_inj (I : Inv X pins σ H s) (h : SqT X.K H a xs) (h' : SqT X.K H a ys) : xs = ys := by
  obtain ⟨its, r, ⟨o, e, _, n, d⟩, _⟩ := I.tuple h
  obtain ⟨its', r', ⟨o', e', _, n', d'⟩, _⟩ := I.tuple h'
  rw [e] at e'; cases e'
  rw [d] at d'
  injection d' with d1 _
  have : its = its' := by simpa using congrArg Array.toList d1
  subst this
  exact r.inj r'
end

/-! ### another wish about exceptions -/
abbrev Cx.wish (X : Cx) (E : Value → Shared → Prop) : Cx := { X with xe := E }
/-- no exception leaves -/
abbrev Cx.nox (X : Cx) : Cx := X.wish fun _ _ => False
theorem Cx.Ok.wish {X : Cx} (ok : X.Ok) (E : Value → Shared → Prop) : (X.wish E).Ok :=
  ⟨ok.mod, ok.kind, ok.glob, ok.blt, ok.above, ok.inj, ok.has, ok.cab, ok.hd, ok.frames, ok.stk, ok.exf, ok.bs, ok.bsz, ok.noex, ok.exfs, ok.funs, ok.frf⟩
theorem Cx.Ok.unwish {X : Cx} {E : Value → Shared → Prop} (ok : (X.wish E).Ok) : X.Ok :=
  ⟨ok.mod, ok.kind, ok.glob, ok.blt, ok.above, ok.inj, ok.has, ok.cab, ok.hd, ok.frames, ok.stk, ok.exf, ok.bs, ok.bsz, ok.noex, ok.exfs, ok.funs, ok.frf⟩
section
variable {X : Cx} {pins : List (Addr × Obj)} {σ : St} {H : Hp} {s : Shared} {E : Value → Shared → Prop}
theorem Inv.wish (I : Inv X pins σ H s) (E : Value → Shared → Prop) : Inv (X.wish E) pins σ H s := ⟨I.ok.wish E, I.os, I.bare, I.base, I.loc, I.cell, I.free, I.freeC, I.pin, I.hok, I.len⟩
theorem Inv.unwish (I : Inv (X.wish E) pins σ H s) : Inv X pins σ H s := ⟨I.ok.unwish, I.os, I.bare, I.base, I.loc, I.cell, I.free, I.freeC, I.pin, I.hok, I.len⟩
theorem SP.unwish {D : Ends} {f : Flow} {s' : Shared} (h : SP (X.wish E) pins D f s') : SP X pins D f s' := by
  cases f with
  | next => obtain ⟨σ', H', I, q⟩ := h; exact ⟨σ', H', I.unwish, q⟩
  | brk => obtain ⟨σ', H', I, q⟩ := h; exact ⟨σ', H', I.unwish, q⟩
  | cont => obtain ⟨σ', H', I, q⟩ := h; exact ⟨σ', H', I.unwish, q⟩
  | ret u => obtain ⟨v, σ', H', I, r, q⟩ := h; exact ⟨v, σ', H', I.unwish, r, q⟩
theorem PSs.nox {st : List Stmt} {t : TS} (h : PSs X.nox st t) : PSs X st t := fun pins s σ H D I hw =>
  wpAny_mono (h pins s σ H D (I.wish _) hw) (fun _ _ q => q.unwish) fun _ _ z => False.elim z
end

/-! ### blocks and small statements -/
section
variable {X : Cx} {st : Stmt} {rest : List Stmt} {t u : TS} {e : Expr} {te : TE} {pos : Pos}
def tNext : TS := fun D σ H => D.nx σ H
def tSeq (t u : TS) : TS := fun D σ H => t { D with nx := u D } σ H
theorem pss_nil : PSs X [] tNext := fun _ _ σ H _ I h => wpAny_execs_nil ⟨σ, H, I, h⟩
theorem pss_cons (h1 : PS X st t) (h2 : PSs X rest u) : PSs X (st :: rest) (tSeq t u) := by
  intro pins s σ H D I h
  refine wpAny_execs_cons (thn (h1 pins s σ H { D with nx := u D } I h) fun f s1 q => ?_)
  cases f with
  | next =>
    obtain ⟨σ', H', I', q⟩ := q
    exact h2 pins s1 σ' H' D I' q
  | ret v => exact q
  | brk => exact q
  | cont => exact q
theorem pss_one (h1 : PS X st t) : PSs X [st] t := by
  intro pins s σ H D I h
  refine wpAny_execs_cons (thn (h1 pins s σ H D I h) fun f s1 q => ?_)
  cases f with
  | next => exact wpAny_execs_nil q
  | ret v => exact q
  | brk => exact q
  | cont => exact q
/-- in a def's body nothing is shown -/
theorem Inv.quiet {pins : List (Addr × Obj)} {σ : St} {H : Hp} {s : Shared} (I : Inv X pins σ H s) : interactive X.env = false := by simp [interactive, I.ok.kind]
/-- an expression whose value is dropped -/
def tDrop (te : TE) : TS := fun D σ H => te σ H fun _ H1 => D.nx σ H1
theorem ps_expr (he : PE X e te) (hs : swapsWith e none pos.line X.env = pure false := by rfl) : PS X (.Expr e pos) (tDrop te) := by
  intro pins s σ H D I h
  exact wpAny_Expr_any (thn (he pins s σ H _ I h) fun v s1 ⟨x, H1, I1, r1, q1⟩ => ⟨σ, H1, I1, q1⟩) I.quiet hs
def tRet (te : TE) : TS := fun D σ H => te σ H D.rt
theorem ps_ret (he : PE X e te) : PS X (.Return (some e) pos) (tRet te) := by
  intro pins s σ H D I h
  exact wpAny_Return_some (thn (he pins s σ H _ I h) fun v s1 ⟨x, H1, I1, r1, q1⟩ => ⟨x, σ, H1, I1, r1, q1⟩)
def tIfS (c : TT) (t u : TS) : TS := fun D σ H => c σ H fun b H1 => if b = true then t D σ H1 else u D σ H1
theorem ps_if {c : Expr} {a b : List Stmt} {tc : TT} (hc : PT X c tc) (ha : PSs X a t) (hb : PSs X b u) : PS X (.If c a b pos) (tIfS tc t u) := by
  intro pins s σ H D I h
  refine wpAny_If (thn (hc pins s σ H _ I h) fun d s1 ⟨H1, I1, q1⟩ => ?_)
  cases d with
  | true => exact ha pins s1 σ H1 D I1 q1
  | false => exact hb pins s1 σ H1 D I1 q1
end

/-! ### targets -/
abbrev TG := V → St → Hp → (St → Hp → Prop) → Prop
abbrev TGs := List V → St → Hp → (St → Hp → Prop) → Prop
def PG (X : Cx) (target : Expr) (t : TG) : Prop :=
  ∀ (pins : List (Addr × Obj)) (s : Shared) (σ : St) (H : Hp) (v : V) (u : Value) (Q : St → Hp → Prop), Inv X pins σ H s → RelV v u → t v σ H Q →
    wpAny (model X.prog X.w) X.A (assign target X.env u) (fun _ s' => ∃ σ' H', Inv X pins σ' H' s' ∧ Q σ' H') X.xe s
/-- several targets, one after another -/
def PGs (X : Cx) (ts : List Expr) (t : TGs) : Prop :=
  ∀ (pins : List (Addr × Obj)) (s : Shared) (σ : St) (H : Hp) (vs : List V) (us : List Value) (Q : St → Hp → Prop), Inv X pins σ H s → Vals vs us → t vs σ H Q →
    wpAny (model X.prog X.w) X.A (assignInOrder ((assignEach ts X.env).map (·.2)) us) (fun _ s' => ∃ σ' H', Inv X pins σ' H' s' ∧ Q σ' H') X.xe s
/-- o[i] = v, by values -/
abbrev TSet := V → V → V → Hp → (Hp → Prop) → Prop
def PSet (X : Cx) (t : TSet) : Prop :=
  ∀ (pins : List (Addr × Obj)) (s : Shared) (σ : St) (H : Hp) (o i v : V) (ov iv u : Value) (Q : Hp → Prop), Inv X pins σ H s → RelV o ov → RelV i iv → RelV v u → t o i v H Q →
    wpAny (model X.prog X.w) X.A (setItem ov iv u) (fun _ s' => ∃ H', Inv X pins σ H' s' ∧ Q H') X.xe s
section
variable {X : Cx} {pos : Pos}
def gName (i : Nat) : TG := fun v σ H Q => Q (σ.set i (some v)) H
theorem pg_name {i : Nat} {x : Str} (hN : X.N.Nodup) (hi : X.N[i]? = some x) (hx : Loc X.env.scope x) (hf : X.fn x = true ∨ X.env.scope.names.lookup x = some .local := by first | exact .inl rfl | exact .inr rfl | assumption) : PG X (.Name x pos) (gName i) := by
  intro pins s σ H v u Q I r h
  exact wpAny_assign_Name (store_ok I hN hi hx r (fun s' I' => ⟨_, H, I', h⟩) hf)
def gNil : TGs := fun vs σ H Q => vs = [] ∧ Q σ H
def gCons (t : TG) (u : TGs) : TGs := fun vs σ H Q => ∃ v r, vs = v :: r ∧ t v σ H fun σ' H' => u r σ' H' Q
theorem pgs_nil : PGs X [] gNil := by
  intro pins s σ H vs us Q I r h
  obtain ⟨e, h⟩ := h
  subst e
  cases r
  exact assignInOrder_nil ⟨σ, H, I, h⟩
theorem pgs_cons {e : Expr} {es : List Expr} {t : TG} {u : TGs} (h1 : PG X e t) (h2 : PGs X es u)
    (hs : (assignEach (e :: es) X.env).map (·.2) = assign e X.env :: (assignEach es X.env).map (·.2) := by rfl) : PGs X (e :: es) (gCons t u) := by
  intro pins s σ H vs us Q I r h
  obtain ⟨v, vr, e1, h⟩ := h
  subst e1
  cases r with
  | cons r rr =>
    rw [hs]
    refine assignInOrder_cons (thn (h1 pins s σ H _ _ _ I r h) fun _ s1 ⟨σ1, H1, I1, q1⟩ => ?_)
    exact h2 pins s1 σ1 H1 _ _ Q I1 rr q1
/-- (a, b, ..) = a tuple of that length -/
def gTup (K : PySem.W.Frag) (n : Nat) (t : TGs) : TG := fun v σ H Q => ∃ a xs, v = .ref a ∧ SqT K H a xs ∧ xs.length = n ∧ t xs σ H Q
theorem pg_tup {es : List Expr} {k : Nat} {t : TGs} {n : Nat} (hc : X.calm = true) (h : PGs X es t)
    (hn : (assignEach es X.env).length = n := by rfl) (hst : (assignEach es X.env).findIdx? (·.1) = none := by rfl) : PG X (.Tuple es k pos) (gTup X.K n t) := by
  intro pins s σ H v u Q I r hw
  obtain ⟨a, xs, e1, hq, hl, hw⟩ := hw
  subst e1
  cases r
  obtain ⟨its, rv, ht, hz⟩ := I.tuple hq
  refine assign_Tuple_tuple (I.ok.hd hc) ht (by simp [hn, ← hl, rv.length]) hst fun h' hx => ?_
  have I1 : Inv X pins σ H { s with heap := h' } := I.kept (t' := s.toks) fun b o e => hx b o (Nat.ne_of_lt (Heap.lt_size e)) e
  exact h pins _ σ H xs _ Q I1 (by simpa using rv) hw
/-- o[i] = .. -/
def gSub (to ti : TE) (t : TSet) : TG := fun v σ H Q => to σ H fun o H1 => ti σ H1 fun i H2 => t o i v H2 fun H3 => Q σ H3
theorem pg_sub {o i : Expr} {to ti : TE} {t : TSet} (ho : PE X o to) (hi : PE X i ti) (hs : PSet X t)
    (ha : ∀ v, assign (.Subscript o i pos) X.env v = (do
      let ov ← holding [v] (eval o X.env)
      let iv ← holding [v, ov] (eval i X.env)
      standAt pos
      holding [v, ov, iv] (setItem ov iv v)
      release [v, ov, iv] []) := by intro _; rfl) : PG X (.Subscript o i pos) (gSub to ti t) := by
  intro pins s σ H v u Q I r h
  rw [ha]
  refine wpAny_bind (wpAny_holding (thn (ho pins s σ H _ I h) fun ov s1 ⟨x, H1, I1, r1, q1⟩ => ?_))
  refine wpAny_bind (wpAny_holding (thn (hi pins s1 σ H1 _ I1 q1) fun iv s2 ⟨y, H2, I2, r2, q2⟩ => ?_))
  refine wpAny_bind (wpAny_standAt (wpAny_bind (wpAny_holding (thn (hs pins s2 σ H2 x y v ov iv u _ I2 r1 r2 r q2) fun _ s3 ⟨H3, I3, q3⟩ => ?_))))
  exact wpAny_release ⟨σ, H3, I3, q3⟩
/-- target = value -/
def tAsg (te : TE) (g : TG) : TS := fun D σ H => te σ H fun x H1 => g x σ H1 D.nx
theorem ps_asg {tg e : Expr} {te : TE} {g : TG} (he : PE X e te) (hg : PG X tg g) (hs : swapsWithSole [tg] e pos.line X.env = pure false := by rfl) (hw : swappedStores [tg] e X.env = pure none := by rfl)
    (h1 : (assignEach [tg] X.env).map (·.2) = [assign tg X.env] := by rfl) : PS X (.Assign [tg] e pos) (tAsg te g) := by
  intro pins s σ H D I h
  refine wpAny_Assign_stores (thn (he pins s σ H _ I h) fun v s1 ⟨x, H1, I1, r1, q1⟩ => ?_) hs hw
  rw [h1]
  exact thn (hg pins s1 σ H1 x v _ I1 r1 q1) fun _ s2 q => q
/-- name = value -/
theorem ps_set {i : Nat} {x : Str} {e : Expr} {te : TE} {pos' : Pos} (hN : X.N.Nodup) (hi : X.N[i]? = some x) (hx : Loc X.env.scope x) (he : PE X e te) (hs : swapsWith e (some (.Name x pos')) pos.line X.env = pure false := by rfl) (hf : X.fn x = true ∨ X.env.scope.names.lookup x = some .local := by first | exact .inl rfl | exact .inr rfl | assumption) :
    PS X (.Assign [.Name x pos'] e pos) (tAsg te (gName i)) := by
  intro pins s σ H D I h
  refine wpAny_Assign_Name (thn (he pins s σ H _ I h) fun v s1 ⟨y, H1, I1, r1, q1⟩ => ?_) hs
  exact store_ok I1 hN hi hx r1 (fun s2 I2 => ⟨_, H1, I2, q1⟩) hf
end

/-! ### while -/
section
variable {X : Cx} {pos : Pos}
end

/-! ### what a loop or a comprehension walks -/
/-- at turn i: it yields x (the heap may grow), or it stops -/
structure It where
  go : Nat → Hp → Prop
  yld : Nat → Hp → V → Hp → Prop
  stop : Nat → Hp → Prop
/-- the iterator's own objects may turn: they are not the frame's, not pinned, younger than the entry (or a comprehension's own) -/
def FpOk (X : Cx) (pins : List (Addr × Obj)) (H : Hp) (b : Addr) : Prop :=
  H b = none ∧ b ≠ X.env.locals ∧ b ∉ X.fs ∧ (b ∈ X.ex ∨ X.s₀.heap.objs.size ≤ b) ∧ (∀ x c, X.env.cells.lookup x = some c → c ≠ b) ∧ ∀ p ∈ X.pn ++ pins, p.1 ≠ b
theorem Inv.fpOk {X : Cx} {pins : List (Addr × Obj)} {σ : St} {H H' : Hp} {s : Shared} {b : Addr} (I : Inv X pins σ H s) (hb : s.heap.objs.size ≤ b) (hn : H' b = none) : FpOk X pins H' b := by
  refine ⟨hn, Nat.ne_of_gt (Nat.lt_of_lt_of_le I.lt hb), I.nofs hb, .inr (Nat.le_trans I.sz hb), fun x c e z => ?_, fun p hp z => ?_⟩
  · obtain ⟨v, q⟩ := I.cell x c e
    exact absurd (Nat.lt_of_lt_of_le q.lt (by rw [z]; exact hb)) (Nat.lt_irrefl _)
  · exact absurd (Nat.lt_of_lt_of_le (Heap.lt_size (I.pin p hp).1) (by rw [z]; exact hb)) (Nat.lt_irrefl _)
structure Turn (P : Program) (w : World) (K : PySem.W.Frag) (tg : Expr) (J : It) (fp : List Addr) (it : Addr) (tn : Nat → Heap → Prop) : Prop where
  mem : it ∈ fp
  obj : ∀ i h, tn i h → ∀ b ∈ fp, ∃ o, h.get? b = some o ∧ ∀ v, o.data ≠ .cell v
  keep : ∀ i h h', tn i h → (∀ b ∈ fp, ∀ o, h.get? b = some o → h'.get? b = some o) → tn i h'
  item : ∀ (X : Cx), X.prog = P → X.w = w → X.K = K → X.calm = true → ∀ (i : Nat) (pins : List (Addr × Obj)) (s : Shared) (σ : St) (H : Hp) (E : Value → Shared → Prop), Inv X pins σ H s → (∀ b ∈ fp, FpOk X pins H b) → tn i s.heap → J.go i H →
    wpAny (model P w) X.A (pyNext (.ref it)) (fun r s1 => ∃ u, r = some u ∧
      wpAny (model P w) X.A (letOwnedTupleGo tg (.ref it) u) (fun _ s2 => ∃ x H', Inv X pins σ H' s2 ∧ RelV x u ∧ J.yld i H x H' ∧ tn (i + 1) s2.heap ∧ ∀ b ∈ fp, H' b = none) E s1) E s
  done : ∀ (X : Cx), X.prog = P → X.w = w → X.K = K → X.calm = true → ∀ (i : Nat) (pins : List (Addr × Obj)) (s : Shared) (σ : St) (H : Hp) (E : Value → Shared → Prop), Inv X pins σ H s → (∀ b ∈ fp, FpOk X pins H b) → tn i s.heap → J.stop i H →
    wpAny (model P w) X.A (pyNext (.ref it)) (fun r s1 => r = none ∧ Inv X pins σ H s1) E s
  self : ∀ (A : Around) (i : Nat) (s : Shared) (Q : Value → Shared → Prop) (E : Value → Shared → Prop), tn i s.heap → Q (.ref it) s → wpAny (model P w) A (pyIter (.ref it)) Q E s
abbrev TI := St → Hp → (It → Hp → Prop) → Prop
/-- an iterator has come -/
def PIE (X : Cx) (pins : List (Addr × Obj)) (σ : St) (tg : Expr) (R : It → Hp → Prop) (itv : Value) (s2 : Shared) : Prop :=
  ∃ (it : Addr) (fp : List Addr) (tn : Nat → Heap → Prop) (J : It) (H' : Hp), itv = .ref it ∧ Inv X pins σ H' s2 ∧ Turn X.prog X.w X.K tg J fp it tn ∧ tn 0 s2.heap ∧ (∀ b ∈ fp, FpOk X pins H' b) ∧ R J H'
def PI (X : Cx) (tg iter : Expr) (wi : TI) : Prop :=
  ∀ (pins : List (Addr × Obj)) (s : Shared) (σ : St) (H : Hp) (R : It → Hp → Prop), Inv X pins σ H s → wi σ H R →
    wpAny (model X.prog X.w) X.A (eval iter X.env) (fun v s1 => wpAny (model X.prog X.w) X.A (pyIter v) (PIE X pins σ tg R) X.xe s1) X.xe s

/-- the step ahead of the store is nothing for an iterator that keeps no tuple -/
theorem go_of {M : Model} {A : Around} {E : Value → Shared → Prop} {s : Shared} {tg : Expr} {it : Addr} {u : Value} {o : Obj} {n : String} {vs : Array Value} {Q : Unit → Shared → Prop} (ho : s.heap.get? it = some o) (hc : o.cls = .type n) (hd : o.data = .fields vs)
    (hn : ["enumerate", "zip", "dict_itemiterator", "dict_reverseitemiterator", "odict_iterator", "itertools.zip_longest", "itertools.pairwise"].contains n = false) (hQ : Q () s) : wpAny M A (letOwnedTupleGo tg (.ref it) u) Q E s := by
  unfold letOwnedTupleGo
  cases tg <;> first
    | exact wpAny_pure hQ
    | (cases u <;> first
        | exact wpAny_pure hQ
        | (refine wpAny_bind (wpAny_load ho ?_)
           rw [hc, hd]
           show wpAny M A (if (["enumerate", "zip", "dict_itemiterator", "dict_reverseitemiterator", "odict_iterator", "itertools.zip_longest", "itertools.pairwise"].contains n && vs[0]? == some (rawInt _)) = true then _ else _) Q E s
           rw [if_neg (by intro h; rw [hn, Bool.false_and] at h; cases h)]
           exact wpAny_pure hQ))

/-- the list at a, as it stands at each turn (a loop may append to it) -/
def Itl (K : PySem.W.Frag) (a : Addr) : It :=
  ⟨fun i H => ∃ xs x, SqL K H a xs ∧ xs[i]? = some x, fun i H x H' => H' = H ∧ ∀ xs, SqL K H a xs → xs[i]? = some x, fun i H => ∃ xs, SqL K H a xs ∧ xs.length ≤ i⟩
/-- lo, lo + 1, .. (n of them) -/
def Itr (lo : Int) (n : Nat) : It := ⟨fun i _ => i < n, fun i H x H' => H' = H ∧ x = .int (lo + i), fun i _ => n ≤ i⟩
theorem turn_list {P : Program} {w : World} {K : PySem.W.Frag} {tg : Expr} (a it : Addr) : Turn P w K tg (Itl K a) [it] it (fun i h => h.IsListIter it a i) where
  mem := by simp
  obj := fun i h st b hb => by
    have e : b = it := by simpa using hb
    subst e
    obtain ⟨o, e, c, d⟩ := st
    exact ⟨o, e, fun v z => by rw [d] at z; cases z⟩
  keep := fun i h h' st k => st.at fun o e => k it (by simp) o e
  item := by
    intro X hP hw hK hc i pins s σ H E I hf st hg
    subst hP hw hK
    obtain ⟨xs, x, hq, hx⟩ := hg
    obtain ⟨its, rv, p, hz⟩ := I.list hq
    obtain ⟨u, hu, ru⟩ := rv.get hx
    obtain ⟨f0, f1, f2, f3, f4, f5⟩ := hf it (by simp)
    refine wpAny_pyNext_list_item st p.isList (x := u) (by simpa using hu) fun h' st' sb => ?_
    have I1 : Inv X pins σ H { s with heap := h' } := I.turned (t' := s.toks) (fun b o hb e => (sb.2 b hb).trans e) f0 f1 f3 f4 f5
    obtain ⟨o, e, c, d⟩ := id st'
    exact ⟨u, rfl, go_of (s := { s with heap := h' }) e c d (by decide) ⟨x, H, I1, ru, ⟨rfl, fun ys hy => by rw [I.list_inj hy hq]; exact hx⟩, st', fun b hb => (hf b hb).1⟩⟩
  done := by
    intro X hP hw hK hc i pins s σ H E I hf st hg
    subst hP hw hK
    obtain ⟨xs, hq, hx⟩ := hg
    obtain ⟨its, rv, p, hz⟩ := I.list hq
    obtain ⟨f0, f1, f2, f3, f4, f5⟩ := hf it (by simp)
    have hl := rv.length
    exact wpAny_pyNext_list_end (I.ok.hd hc) st p.isList (by simp; omega) fun h' eb => ⟨rfl, I.turned (t' := s.toks) (fun b o hb e => eb b o hb e) f0 f1 f3 f4 f5⟩
  self := fun _ _ _ _ _ st h => wpAny_pyIter_listiter st h
theorem turn_range {P : Program} {w : World} {K : PySem.W.Frag} {tg : Expr} (it : Addr) (lo : Int) (n : Nat) : Turn P w K tg (Itr lo n) [it] it (fun i h => IsRangeIter h it (lo + (i : Nat) * 1) ((n : Int) - (i : Nat)) 1) where
  mem := by simp
  obj := fun i h st b hb => by
    have e : b = it := by simpa using hb
    subst e
    exact ⟨_, st, fun v z => by
      have z' : Data.fields _ = Data.cell v := z
      cases z'⟩
  keep := fun i h h' st k => k it (by simp) _ st
  item := by
    intro X hP hw hK hc i pins s σ H E I hf st hg
    subst hP hw hK
    obtain ⟨f0, f1, f2, f3, f4, f5⟩ := hf it (by simp)
    have W := Walks.range (prog := X.prog) (w := X.w) (I.ok.hd hc) it lo 1 n
    refine W.item i s _ _ hg st fun v h' tk hv st' kk => ?_
    obtain ⟨t, rfl⟩ := hv
    have I1 : Inv X pins σ H { s with heap := h', toks := tk } := I.turned (fun b o hb e => kk b o (by simpa using hb) e) f0 f1 f3 f4 f5
    refine ⟨_, rfl, go_of (s := { s with heap := h', toks := tk }) (n := "range_iterator") st' rfl rfl (by decide) ⟨.int (lo + i), H, I1, ⟨t, ?_⟩, ⟨rfl, rfl⟩, st', fun b hb => (hf b hb).1⟩⟩
    rw [Int.mul_one]
  done := by
    intro X hP hw hK hc i pins s σ H E I hf st hg
    subst hP hw hK
    obtain ⟨f0, f1, f2, f3, f4, f5⟩ := hf it (by simp)
    exact wpAny_pyNext_range_end (I.ok.hd hc) st (by have : n ≤ i := hg; omega) fun h' eb => ⟨rfl, I.turned (t' := s.toks) (fun b o hb e => eb b o hb e) f0 f1 f3 f4 f5⟩
  self := fun _ _ _ _ _ st h => wpAny_pyIter_rangeiter st h
end L2

namespace L2
open PySem PySem.Spec PyProof.Rows
section
variable {X : Cx} {tg : Expr}
def iList (K : PySem.W.Frag) (tl : TE) : TI := fun σ H R => tl σ H fun x H1 => ∃ a, x = .ref a ∧ (∃ xs, SqL K H1 a xs) ∧ R (Itl K a) H1
theorem pi_list {l : Expr} {tl : TE} (hl : PE X l tl) : PI X tg l (iList X.K tl) := by
  intro pins s σ H R I h
  refine thn (hl pins s σ H _ I h) fun v s1 ⟨x, H1, I1, r1, q1⟩ => ?_
  obtain ⟨a, e, ⟨xs, hq⟩, q⟩ := q1
  subst e
  cases r1
  obtain ⟨its, rv, p, hz⟩ := I1.list hq
  refine wpAny_pyIter_list p.isList ?_
  refine ⟨s1.heap.objs.size, [s1.heap.objs.size], _, _, H1, rfl, I1.kept (t' := s1.toks) fun b o e => Heap.get?_push_of_some _ e, turn_list a _, ⟨_, Heap.get?_push_size _ rfl, rfl, rfl⟩, fun b hb => ?_, q⟩
  have e : b = s1.heap.objs.size := by simpa using hb
  subst e
  exact I1.fpOk (Nat.le_refl _) (I1.hok.fresh (Nat.le_refl _))
/-- a range object just made, walked -/
theorem range_it {pins : List (Addr × Obj)} {σ : St} {H : Hp} {s : Shared} {R : It → Hp → Prop} {E : Value → Shared → Prop} {lo hi : Int} {t u v : Tok} {tk : Nat} (I : Inv X pins σ H s) (h1 : -(2 ^ 62) ≤ lo) (h2 : lo < 2 ^ 62) (h3 : -(2 ^ 62) ≤ hi) (h4 : hi < 2 ^ 62)
    (q : R (Itr lo (hi - lo).toNat) H) : wpAny (model X.prog X.w) X.A (pyIter (.ref s.heap.objs.size)) (PIE X pins σ tg R) E { s with heap := s.heap.push { cls := .type "range", data := .fields #[.int lo t, .int hi u, .int 1 v] }, toks := tk } := by
  refine wpAny_pyIter_range (IsRange.new ..) (small_one h1 h2 h3 h4) ?_
  have I1 : Inv X pins σ H { s with heap := s.heap.push { cls := .type "range", data := .fields #[.int lo t, .int hi u, .int 1 v] }, toks := tk } := I.kept fun b o e => Heap.get?_push_of_some _ e
  refine ⟨(s.heap.push { cls := .type "range", data := .fields #[.int lo t, .int hi u, .int 1 v] }).objs.size, [(s.heap.push { cls := .type "range", data := .fields #[.int lo t, .int hi u, .int 1 v] }).objs.size], _, _, H, rfl,
    I1.kept (t' := tk) fun b o e => Heap.get?_push_of_some _ e, turn_range _ lo (hi - lo).toNat, ?_, fun b hb => ?_, q⟩
  · have e1 : lo + ((0 : Nat) : Int) * 1 = lo := by simp
    have e2 : (((hi - lo).toNat : Nat) : Int) - ((0 : Nat) : Int) = Builtin.Range.rangeSize lo hi 1 := by rw [rangeSize_one]; split <;> omega
    show IsRangeIter _ _ (lo + ((0 : Nat) : Int) * 1) ((((hi - lo).toNat : Nat) : Int) - ((0 : Nat) : Int)) 1
    rw [e1, e2]
    exact Heap.get?_push_size _ rfl
  · have e : b = (s.heap.push { cls := .type "range", data := .fields #[.int lo t, .int hi u, .int 1 v] }).objs.size := by simpa using hb
    subst e
    exact I1.fpOk (Nat.le_refl _) (I1.hok.fresh (Nat.le_refl _))
def iRng1 (ta : TA) : TI := fun σ H R => ta σ H fun vs H1 => ∃ j : Int, vs = [.int j] ∧ -(2 ^ 62) ≤ j ∧ j < 2 ^ 62 ∧ R (Itr 0 j.toNat) H1
theorem pi_range1 {a : Expr} {ta : TA} {p pos : Pos} (hg : Gl X "range") (hm : X.mg "range" = none) (ha : PA X [a] ta) (hs : starEach [a] X.env = [(false, eval a X.env)] := by rfl) : PI X tg (.Call (.Name "range" p) [a] [] pos) (iRng1 ta) := by
  intro pins s σ H R I h
  refine Call_ (ld_blt I hg hm boot_range (PyProof.Rows.callWith_type1 (thn (ha pos pins s σ H _ I h) fun us s1 ⟨vs, H1, I1, r1, q1⟩ => ?_) hs rfl))
  obtain ⟨j, e, q1, q2, q⟩ := q1
  subst e
  cases r1 with
  | cons r rr =>
    cases rr
    obtain ⟨t, rfl⟩ := r
    exact call_range_1 (range_it I1 (by omega) (by omega) q1 q2 (by simpa using q))

/-! ### for -/
/-- W: the invariant by the turn and a measure; N: what the body is to reach -/
def tFor (wi : TI) (g : TG) (tb : TS) : TS := fun D σ H => wi σ H fun J H1 => ∃ W : Nat → Nat → St → Hp → Prop, (∃ m, W 0 m σ H1) ∧ ∀ i m σ H, W i m σ H →
  (J.stop i H ∧ D.nx σ H) ∨ (J.go i H ∧ ∃ N : St → Hp → Prop, (∀ σ' H', N σ' H' → ∃ m', m' < m ∧ W (i + 1) m' σ' H') ∧ ∀ x H', J.yld i H x H' → g x σ H' fun σ2 H2 => tb { D with nx := N, ct := N, bk := D.nx } σ2 H2)
/-- the records at fp as they stand -/
def pinsAt (fp : List Addr) (h : Heap) : List (Addr × Obj) := fp.filterMap fun b => (h.get? b).map fun o => (b, o)
theorem mem_pinsAt {fp : List Addr} {h : Heap} {b : Addr} {o : Obj} (hb : b ∈ fp) (e : h.get? b = some o) : (b, o) ∈ pinsAt fp h := List.mem_filterMap.mpr ⟨b, hb, by rw [e]; rfl⟩
theorem of_pinsAt {fp : List Addr} {h : Heap} {p : Addr × Obj} (hp : p ∈ pinsAt fp h) : p.1 ∈ fp ∧ h.get? p.1 = some p.2 := by
  obtain ⟨b, hb, e⟩ := List.mem_filterMap.mp hp
  cases q : h.get? b with
  | none => rw [q] at e; cases e
  | some o =>
    rw [q] at e
    have e' : (b, o) = p := Option.some.inj e
    subst e'
    exact ⟨hb, q⟩
theorem Inv.pinned {pins : List (Addr × Obj)} {σ : St} {H : Hp} {s : Shared} {fp : List Addr} (I : Inv X pins σ H s) (hf : ∀ b ∈ fp, FpOk X pins H b) (ho : ∀ b ∈ fp, ∃ o, s.heap.get? b = some o ∧ ∀ v, o.data ≠ .cell v) : Inv X (pins ++ pinsAt fp s.heap) σ H s :=
  I.pins_of fun p hp => (List.mem_append.mp hp).elim (fun z => I.pin p (List.mem_append_right _ z)) fun z => by
    obtain ⟨hb, e⟩ := of_pinsAt z
    obtain ⟨f0, f1, f2, _⟩ := hf p.1 hb
    obtain ⟨o, e', d⟩ := ho p.1 hb
    rw [e] at e'; cases e'
    exact ⟨e, f0, f1, f2, d⟩
theorem Inv.unpinned {pins pl : List (Addr × Obj)} {σ : St} {H : Hp} {s : Shared} (I : Inv X (pins ++ pl) σ H s) : Inv X pins σ H s := I.pins_of fun p hp => I.pin p (List.mem_append_right _ (List.mem_append_left _ hp))
theorem ps_for {iter : Expr} {body : List Stmt} {wi : TI} {g : TG} {tb : TS} {pos : Pos} (hp : PassesOwn (model X.prog X.w) X.A X.env X.xe) (hc : X.calm = true) (hi : PI X tg iter wi) (hg : PG X tg g) (hb : PSs X body tb)
    (hs : ∀ x, foldedSetIterable iter X.env x = pure x := by intro _; rfl) : PS X (.For tg iter body [] pos) (tFor wi g tb) := by
  intro pins s σ H D I h
  refine wpAny_For (thn (hi pins s σ H _ I h) fun v s1 h1 => thn h1 fun itv s2 h2 => ?_) hs
  obtain ⟨it, fp, tn, J, H2, e, I2, T, st2, f2, W, ⟨m0, w0⟩, turn⟩ := h2
  subst e
  -- what stays true of the iterator's objects through the loop
  have stat : ∀ {H' : Hp}, (∀ b ∈ fp, H' b = none) → ∀ b ∈ fp, FpOk X pins H' b := fun hn b hb => ⟨hn b hb, (f2 b hb).2⟩
  refine codeAny_forLoop_any (fun n s' => ∃ i σ' H', Inv X pins σ' H' s' ∧ tn i s'.heap ∧ (∀ b ∈ fp, H' b = none) ∧ W i n σ' H') ?_ m0 ⟨0, σ, H2, I2, st2, fun b hb => (f2 b hb).1, w0⟩
  rintro n s3 ⟨i, σ3, H3, I3, st3, fr3, w3⟩
  rcases turn i n σ3 H3 w3 with ⟨stop, qn⟩ | ⟨go, N, hN, step⟩
  · refine wpAny_passesOwn hp (thn (T.done X rfl rfl rfl hc i pins s3 σ3 H3 X.xe I3 (stat fr3) st3 stop) fun r s4 ⟨hr, I4⟩ => ?_)
    subst hr
    exact wpAny_execs_nil ⟨σ3, H3, I4, qn⟩
  · refine wpAny_passesOwn hp (thn (T.item X rfl rfl rfl hc i pins s3 σ3 H3 X.xe I3 (stat fr3) st3 go) fun r s4 ⟨u, hr, h4⟩ => ?_)
    subst hr
    refine wpAny_passesOwn hp (thn h4 fun _ s5 hh => ?_)
    obtain ⟨x, H5, I5, r5, y5, st5, fr5⟩ := hh
    have I5' := I5.pinned (stat fr5) (T.obj _ _ st5)
    refine wpAny_passesOwn hp (thn (hg _ s5 σ3 H5 x u _ I5' r5 (step x H5 y5)) fun _ s6 ⟨σ6, H6, I6, q6⟩ => ?_)
    refine wpAny_passesOwn hp (thn (hb _ s6 σ6 H6 _ I6 q6) fun f s7 q7 => ?_)
    have again : ∀ {σ7 : St} {H7 : Hp}, Inv X (pins ++ pinsAt fp s5.heap) σ7 H7 s7 → N σ7 H7 → ∃ m, m < n ∧ ∃ i σ' H', Inv X pins σ' H' s7 ∧ tn i s7.heap ∧ (∀ b ∈ fp, H' b = none) ∧ W i m σ' H' := fun {σ7 H7} I7 n7 => by
      obtain ⟨m', hm, w7⟩ := hN σ7 H7 n7
      refine ⟨m', hm, i + 1, σ7, H7, I7.unpinned, T.keep _ _ _ st5 fun b hb o e => (I7.pin (b, o) (List.mem_append_right _ (List.mem_append_right _ (mem_pinsAt hb e)))).1, fun b hb => ?_, w7⟩
      obtain ⟨o, e, d⟩ := T.obj _ _ st5 b hb
      exact (I7.pin (b, o) (List.mem_append_right _ (List.mem_append_right _ (mem_pinsAt hb e)))).2.1
    cases f with
    | next => obtain ⟨σ7, H7, I7, n7⟩ := q7; exact again I7 n7
    | cont => obtain ⟨σ7, H7, I7, n7⟩ := q7; exact again I7 n7
    | brk => obtain ⟨σ7, H7, I7, q7⟩ := q7; exact ⟨σ7, H7, I7.unpinned, q7⟩
    | ret v => obtain ⟨x7, σ7, H7, I7, r7, q7⟩ := q7; exact ⟨x7, σ7, H7, I7.unpinned, r7, q7⟩
end

/-! ### the forms one uses -/
/-- over a list that the body leaves as it is -/
theorem for_list {K : PySem.W.Frag} {a : Addr} {xs : List V} {g : TG} {tb : TS} {D : Ends} {σ : St} {H : Hp} (Pv : Nat → St → Hp → Prop) (h0 : Pv 0 σ H) (hl : ∀ i σ H, i ≤ xs.length → Pv i σ H → SqL K H a xs)
    (hs : ∀ i x σ H, xs[i]? = some x → Pv i σ H → g x σ H fun σ2 H2 => tb { D with nx := Pv (i + 1), ct := Pv (i + 1), bk := D.nx } σ2 H2) (hd : ∀ σ H, Pv xs.length σ H → D.nx σ H) :
    ∃ W : Nat → Nat → St → Hp → Prop, (∃ m, W 0 m σ H) ∧ ∀ i m σ H, W i m σ H →
      ((Itl K a).stop i H ∧ D.nx σ H) ∨ ((Itl K a).go i H ∧ ∃ N : St → Hp → Prop, (∀ σ' H', N σ' H' → ∃ m', m' < m ∧ W (i + 1) m' σ' H') ∧ ∀ x H', (Itl K a).yld i H x H' → g x σ H' fun σ2 H2 => tb { D with nx := N, ct := N, bk := D.nx } σ2 H2) := by
  refine ⟨fun i m σ H => m = xs.length - i ∧ i ≤ xs.length ∧ Pv i σ H, ⟨xs.length, by simp, Nat.zero_le _, h0⟩, ?_⟩
  rintro i m σ H ⟨rfl, hi, p⟩
  have q := hl i σ H hi p
  by_cases hlt : i < xs.length
  · refine .inr ⟨⟨xs, xs[i], q, by simp [hlt]⟩, Pv (i + 1), fun σ' H' p' => ⟨xs.length - (i + 1), by omega, rfl, hlt, p'⟩, fun x H' y => ?_⟩
    obtain ⟨e, y⟩ := y
    subst e
    exact hs i x σ _ (y xs q) p
  · have e : i = xs.length := by omega
    subst e
    exact .inl ⟨⟨xs, q, Nat.le_refl _⟩, hd σ H p⟩
theorem for_range {lo : Int} {n : Nat} {g : TG} {tb : TS} {D : Ends} {σ : St} {H : Hp} (Pv : Nat → St → Hp → Prop) (h0 : Pv 0 σ H)
    (hs : ∀ i σ H, i < n → Pv i σ H → g (.int (lo + i)) σ H fun σ2 H2 => tb { D with nx := Pv (i + 1), ct := Pv (i + 1), bk := D.nx } σ2 H2) (hd : ∀ σ H, Pv n σ H → D.nx σ H) :
    ∃ W : Nat → Nat → St → Hp → Prop, (∃ m, W 0 m σ H) ∧ ∀ i m σ H, W i m σ H →
      ((Itr lo n).stop i H ∧ D.nx σ H) ∨ ((Itr lo n).go i H ∧ ∃ N : St → Hp → Prop, (∀ σ' H', N σ' H' → ∃ m', m' < m ∧ W (i + 1) m' σ' H') ∧ ∀ x H', (Itr lo n).yld i H x H' → g x σ H' fun σ2 H2 => tb { D with nx := N, ct := N, bk := D.nx } σ2 H2) := by
  refine ⟨fun i m σ H => m = n - i ∧ i ≤ n ∧ Pv i σ H, ⟨n, by simp, Nat.zero_le _, h0⟩, ?_⟩
  rintro i m σ H ⟨rfl, hi, p⟩
  by_cases hlt : i < n
  · refine .inr ⟨hlt, Pv (i + 1), fun σ' H' p' => ⟨n - (i + 1), by omega, rfl, hlt, p'⟩, fun x H' y => ?_⟩
    obtain ⟨e, y⟩ := y
    subst e y
    exact hs i σ _ hlt p
  · have e : i = n := by omega
    subst e
    exact .inl ⟨Nat.le_refl _, hd σ H p⟩
end L2

namespace L2
open PySem PySem.Spec PyProof.Rows

abbrev R2 := V → V → Hp → VK → Prop
/-- a two-place operation on values: f is binaryOp op, inplaceOp op or compareOp op -/
def OpR (X : Cx) (f : Value → Value → Sem Value) (r : R2) : Prop :=
  ∀ (pins : List (Addr × Obj)) (s : Shared) (σ : St) (H : Hp) (x y : V) (v u : Value) (Q : VK), Inv X pins σ H s → RelV x v → RelV y u → r x y H Q →
    wpAny (model X.prog X.w) X.A (f v u) (EP X pins σ Q) X.xe s
/-- a one-place operation -/
def UnR (X : Cx) (f : Value → Sem Value) (r : V → Hp → VK → Prop) : Prop :=
  ∀ (pins : List (Addr × Obj)) (s : Shared) (σ : St) (H : Hp) (x : V) (v : Value) (Q : VK), Inv X pins σ H s → RelV x v → r x H Q →
    wpAny (model X.prog X.w) X.A (f v) (EP X pins σ Q) X.xe s
/-- a call of a value that is known (a builtin, a type) with values -/
def CallR (X : Cx) (f : Value) (r : List V → Hp → VK → Prop) : Prop :=
  ∀ (pins : List (Addr × Obj)) (s : Shared) (σ : St) (H : Hp) (xs : List V) (us : List Value) (Q : VK), Inv X pins σ H s → Vals xs us → r xs H Q →
    wpAny (model X.prog X.w) X.A (call f us) (EP X pins σ Q) X.xe s

def tOp (r : R2) (ta tb : TE) : TE := fun σ H Q => ta σ H fun x H1 => tb σ H1 fun y H2 => r x y H2 Q
def tUn (r : V → Hp → VK → Prop) (ta : TE) : TE := fun σ H Q => ta σ H fun x H1 => r x H1 Q
/-- ints in, under C, and a value out -/
def rI (C : Int → Int → Prop) (g : Int → Int → V) : R2 := fun x y H Q => ∃ i j, x = .int i ∧ y = .int j ∧ C i j ∧ Q (g i j) H
def rI0 (g : Int → Int → V) : R2 := fun x y H Q => ∃ i j, x = .int i ∧ y = .int j ∧ Q (g i j) H
def rU (g : Int → V) : V → Hp → VK → Prop := fun x H Q => ∃ i, x = .int i ∧ Q (g i) H

section
variable {X : Cx} {a b c : Expr} {ta tb tc : TE} {pos : Pos}

theorem binT (ha : PE X a ta) (hb : PE X b tb) {pins : List (Addr × Obj)} {s : Shared} {σ : St} {H : Hp} {R : V → V → Hp → Prop} (I : Inv X pins σ H s)
    (h : ta σ H fun x H1 => tb σ H1 fun y H2 => R x y H2) {Q : Value → Shared → Prop} {f : Value → Value → Sem Value}
    (hf : ∀ v u s2 x y H2, Inv X pins σ H2 s2 → RelV x v → RelV y u → R x y H2 → wpAny (model X.prog X.w) X.A (f v u) Q X.xe s2) :
    wpAny (model X.prog X.w) X.A (eval a X.env) (fun v s₁ => wpAny (model X.prog X.w) X.A (eval b X.env) (fun u s₂ => wpAny (model X.prog X.w) X.A (f v u) Q X.xe s₂) X.xe s₁) X.xe s := by
  refine thn (ha pins s σ H _ I h) fun v s1 ⟨x, H1, I1, r1, q1⟩ => ?_
  refine thn (hb pins s1 σ H1 _ I1 q1) fun u s2 ⟨y, H2, I2, r2, q2⟩ => ?_
  exact hf v u s2 x y H2 I2 r1 r2 q2

theorem pe_op {op : Operator} {r : R2} (ho : OpR X (binaryOp op) r) (ha : PE X a ta) (hb : PE X b tb) : PE X (.BinOp a op b pos) (tOp r ta tb) := by
  intro pins s σ H Q I h
  exact wpAny_BinOp (binT ha hb I h fun v u s2 x y H2 I2 rx ry q => ho pins s2 σ H2 x y v u Q I2 rx ry q)
theorem pe_un {op : UnaryOp} {r : V → Hp → VK → Prop} (ho : UnR X (unaryOp op) r) (ha : PE X a ta) : PE X (.UnaryOp op a pos) (tUn r ta) := by
  intro pins s σ H Q I h
  exact UnaryOp_ (thn (ha pins s σ H _ I h) fun v s1 ⟨x, H1, I1, r1, q1⟩ => ho pins s1 σ H1 x v Q I1 r1 q1)

/-! ### ints -/
theorem opI {f : Value → Value → Sem Value} {C : Int → Int → Prop} {g : Int → Int → Int}
    (rule : ∀ (i j : Int) (t u : Tok) (s : Shared) (Q : Value → Shared → Prop) (E : Value → Shared → Prop), C i j → Q (.int (g i j) s.toks) { s with toks := s.toks + 1 } → wpAny (model X.prog X.w) X.A (f (.int i t) (.int j u)) Q E s) :
    OpR X f (rI C fun i j => .int (g i j)) := by
  intro pins s σ H x y v u Q I rx ry h
  obtain ⟨i, j, rfl, rfl, hc, q⟩ := h
  obtain ⟨t, rfl⟩ := rx
  obtain ⟨t', rfl⟩ := ry
  exact rule i j t t' s _ _ hc ⟨.int (g i j), H, I.tok _, ⟨_, rfl⟩, q⟩
theorem opI0 {f : Value → Value → Sem Value} {g : Int → Int → Int}
    (rule : ∀ (i j : Int) (t u : Tok) (s : Shared) (Q : Value → Shared → Prop) (E : Value → Shared → Prop), Q (.int (g i j) s.toks) { s with toks := s.toks + 1 } → wpAny (model X.prog X.w) X.A (f (.int i t) (.int j u)) Q E s) :
    OpR X f (rI0 fun i j => .int (g i j)) := by
  intro pins s σ H x y v u Q I rx ry h
  obtain ⟨i, j, rfl, rfl, q⟩ := h
  obtain ⟨t, rfl⟩ := rx
  obtain ⟨t', rfl⟩ := ry
  exact rule i j t t' s _ _ ⟨.int (g i j), H, I.tok _, ⟨_, rfl⟩, q⟩
theorem opB0 {f : Value → Value → Sem Value} {g : Int → Int → Bool}
    (rule : ∀ (i j : Int) (t u : Tok) (s : Shared) (Q : Value → Shared → Prop) (E : Value → Shared → Prop), Q (.bool (g i j)) s → wpAny (model X.prog X.w) X.A (f (.int i t) (.int j u)) Q E s) :
    OpR X f (rI0 fun i j => .bl (g i j)) := by
  intro pins s σ H x y v u Q I rx ry h
  obtain ⟨i, j, rfl, rfl, q⟩ := h
  obtain ⟨t, rfl⟩ := rx
  obtain ⟨t', rfl⟩ := ry
  exact rule i j t t' s _ _ ⟨.bl (g i j), H, I, rfl, q⟩

def CDiv (i j : Int) : Prop := 0 < j ∧ j < 1073741824
def CPow (i j : Int) : Prop := 0 ≤ j ∧ j ≤ 1000000 ∧ i.natAbs < 2 ^ 64
def CMul (i j : Int) : Prop := (-(2 ^ 64) < i ∧ i < 2 ^ 64) ∨ (-(2 ^ 64) < j ∧ j < 2 ^ 64)
theorem CMul.ok {i j : Int} (h : CMul i j) : IntMulOk i j := by
  rcases h with ⟨h1, h2⟩ | ⟨h1, h2⟩
  · exact .of_left (intBits_le_64 h1 h2)
  · exact .of_right (intBits_le_64 h1 h2)

theorem op_add : OpR X (binaryOp .Add) (rI0 fun i j => .int (i + j)) := opI0 fun _ _ _ _ _ _ _ q => add_int q
theorem op_sub : OpR X (binaryOp .Sub) (rI0 fun i j => .int (i - j)) := opI0 fun _ _ _ _ _ _ _ q => sub_int q
theorem op_mul : OpR X (binaryOp .Mult) (rI CMul fun i j => .int (i * j)) := opI fun _ _ _ _ _ _ _ hc q => mul_int q hc.ok
/-- // by a positive divisor -/
theorem op_fdiv : OpR X (binaryOp .FloorDiv) (rI CDiv fun i j => .int (i / j)) := opI fun i j _ _ _ _ _ hc q => by
  have h1 : (0 : Int) < j := hc.1
  have h2 : j < 1073741824 := hc.2
  exact floordiv_int (by omega) (by rw [Int.fdiv_eq_ediv_of_nonneg i (by omega)]; exact q) (.inl (PyProof.noPylong_small (by omega)))
/-- % by a positive divisor of any size -/
theorem op_mod : OpR X (binaryOp .Mod) (rI (fun _ j => 0 < j) fun i j => .int (i % j)) := opI fun i j _ _ _ _ _ hc q => by
  have h1 : (0 : Int) < j := hc
  exact mod_int' (by omega) (by rw [Int.fmod_eq_emod_of_nonneg i (by omega)]; exact q)
theorem op_pow : OpR X (binaryOp .Pow) (rI CPow fun i j => .int (i ^ j.toNat)) := opI fun _ _ _ _ _ _ _ hc q => pow_int_small hc.1 hc.2.1 hc.2.2 q


theorem unI {f : Value → Sem Value} {g : Int → Int}
    (rule : ∀ (i : Int) (t : Tok) (s : Shared) (Q : Value → Shared → Prop) (E : Value → Shared → Prop), Q (.int (g i) s.toks) { s with toks := s.toks + 1 } → wpAny (model X.prog X.w) X.A (f (.int i t)) Q E s) :
    UnR X f (rU fun i => .int (g i)) := by
  intro pins s σ H x v Q I rx h
  obtain ⟨i, rfl, q⟩ := h
  obtain ⟨t, rfl⟩ := rx
  exact rule i t s _ _ ⟨.int (g i), H, I.tok _, ⟨_, rfl⟩, q⟩
theorem un_neg : UnR X (unaryOp .USub) (rU fun i => .int (-i)) := unI fun _ _ _ _ _ q => neg_int q

/-! ### bools among ints: n += (a < b) -/
end

/-! ### comparisons -/
/-- the scalars that == tells apart as data does -/
def scal : V → V → Bool
  | .non, .non => true | .non, .int _ => true | .int _, .non => true | .non, .bl _ => true | .bl _, .non => true | .non, .str _ => true | .str _, .non => true
  | .int _, .int _ => true | .bl _, .bl _ => true | .str _, .str _ => true | .byt _, .byt _ => true
  | .int _, .str _ => true | .str _, .int _ => true | .bl _, .str _ => true | .str _, .bl _ => true
  | _, _ => false
def rEq : R2 := fun x y H Q => scal x y = true ∧ Q (.bl (decide (x = y))) H
def rNe : R2 := fun x y H Q => scal x y = true ∧ Q (.bl (!decide (x = y))) H

theorem dec_int {i j : Int} : decide (V.int i = V.int j) = (i == j) := by
  rw [Bool.eq_iff_iff]
  simp
theorem dec_bl {i j : Bool} : decide (V.bl i = V.bl j) = (i == j) := by
  rw [Bool.eq_iff_iff]
  simp
theorem dec_str {i j : Str} : decide (V.str i = V.str j) = (i == j) := by
  rw [Bool.eq_iff_iff]
  simp
theorem dec_byt {i j : Array UInt8} : decide (V.byt i = V.byt j) = (i.toList == j.toList) := by
  rw [Bool.eq_iff_iff]
  cases i
  cases j
  simp

section
variable {X : Cx} {a b c : Expr} {ta tb tc : TE} {pos : Pos}
theorem fin_bl {pins : List (Addr × Obj)} {σ : St} {H : Hp} {s : Shared} {Q : VK} {k k' : Bool} (I : Inv X pins σ H s) (q : Q (.bl k) H) (e : k = k') : EP X pins σ Q (.bool k') s := by
  subst e
  exact ⟨.bl k, H, I, rfl, q⟩
theorem op_eq : OpR X (compareOp .Eq) rEq := by
  intro pins s σ H x y v u Q I rx ry h
  obtain ⟨hs, q⟩ := h
  cases x with
  | non =>
    cases rx
    cases y with
    | non => cases ry; exact PySem.EqNone.eq_none_none (fin_bl I q (by simp))
    | bl j => cases ry; exact PySem.EqNone.eq_none_bool (fin_bl I q (by simp))
    | int j => obtain ⟨t', rfl⟩ := ry; exact PySem.EqNone.eq_none_int (fin_bl I q (by simp))
    | str j => obtain ⟨t', rfl⟩ := ry; exact PySem.EqNone.eq_none_str (fin_bl I q (by simp))
    | _ => exact absurd (show false = true from hs) Bool.false_ne_true
  | bl i =>
    cases rx
    cases y with
    | non => cases ry; exact PySem.EqNone.eq_bool_none (fin_bl I q (by simp))
    | bl j => cases ry; exact eq_bool (fin_bl I q dec_bl)
    | str j => obtain ⟨t', rfl⟩ := ry; exact PySem.EqMixed.eq_bool_str (fin_bl I q (by simp))
    | _ => exact absurd (show false = true from hs) Bool.false_ne_true
  | int i =>
    obtain ⟨t, rfl⟩ := rx
    cases y with
    | non => cases ry; exact PySem.EqNone.eq_int_none (fin_bl I q (by simp))
    | int j => obtain ⟨t', rfl⟩ := ry; exact eq_int (fin_bl I q dec_int)
    | str j => obtain ⟨t', rfl⟩ := ry; exact PySem.EqMixed.eq_int_str (fin_bl I q (by simp))
    | _ => exact absurd (show false = true from hs) Bool.false_ne_true
  | str i =>
    obtain ⟨t, rfl⟩ := rx
    cases y with
    | non => cases ry; exact PySem.EqNone.eq_str_none (fin_bl I q (by simp))
    | bl j => cases ry; exact PySem.EqMixed.eq_str_bool (fin_bl I q (by simp))
    | int j => obtain ⟨t', rfl⟩ := ry; exact PySem.EqMixed.eq_str_int (fin_bl I q (by simp))
    | str j => obtain ⟨t', rfl⟩ := ry; exact eq_str (fin_bl I q dec_str)
    | _ => exact absurd (show false = true from hs) Bool.false_ne_true
  | byt i =>
    obtain ⟨t, rfl⟩ := rx
    cases y with
    | byt j => obtain ⟨t', rfl⟩ := ry; exact PySem.W.eq_bytes (fin_bl I q dec_byt)
    | _ => exact absurd (show false = true from hs) Bool.false_ne_true
  | _ => cases y <;> exact absurd (show false = true from hs) Bool.false_ne_true
theorem op_ne : OpR X (compareOp .NotEq) rNe := by
  intro pins s σ H x y v u Q I rx ry h
  obtain ⟨hs, q⟩ := h
  cases x with
  | non =>
    cases rx
    cases y with
    | non => cases ry; exact PySem.EqNone.ne_none_none (fin_bl I q (by simp))
    | bl j => cases ry; exact PySem.EqNone.ne_none_bool (fin_bl I q (by simp))
    | int j => obtain ⟨t', rfl⟩ := ry; exact PySem.EqNone.ne_none_int (fin_bl I q (by simp))
    | str j => obtain ⟨t', rfl⟩ := ry; exact PySem.EqNone.ne_none_str (fin_bl I q (by simp))
    | _ => exact absurd (show false = true from hs) Bool.false_ne_true
  | bl i =>
    cases rx
    cases y with
    | non => cases ry; exact PySem.EqNone.ne_bool_none (fin_bl I q (by simp))
    | bl j => cases ry; exact ne_bool (fin_bl I q (congrArg not dec_bl))
    | str j => obtain ⟨t', rfl⟩ := ry; exact PySem.EqMixed.ne_bool_str (fin_bl I q (by simp))
    | _ => exact absurd (show false = true from hs) Bool.false_ne_true
  | int i =>
    obtain ⟨t, rfl⟩ := rx
    cases y with
    | non => cases ry; exact PySem.EqNone.ne_int_none (fin_bl I q (by simp))
    | int j => obtain ⟨t', rfl⟩ := ry; exact ne_int (fin_bl I q (congrArg not dec_int))
    | str j => obtain ⟨t', rfl⟩ := ry; exact PySem.EqMixed.ne_int_str (fin_bl I q (by simp))
    | _ => exact absurd (show false = true from hs) Bool.false_ne_true
  | str i =>
    obtain ⟨t, rfl⟩ := rx
    cases y with
    | non => cases ry; exact PySem.EqNone.ne_str_none (fin_bl I q (by simp))
    | bl j => cases ry; exact PySem.EqMixed.ne_str_bool (fin_bl I q (by simp))
    | int j => obtain ⟨t', rfl⟩ := ry; exact PySem.EqMixed.ne_str_int (fin_bl I q (by simp))
    | str j => obtain ⟨t', rfl⟩ := ry; exact ne_str (fin_bl I q (congrArg not dec_str))
    | _ => exact absurd (show false = true from hs) Bool.false_ne_true
  | byt i =>
    obtain ⟨t, rfl⟩ := rx
    cases y with
    | byt j => obtain ⟨t', rfl⟩ := ry; exact PySem.W.ne_bytes (fin_bl I q (congrArg not dec_byt))
    | _ => exact absurd (show false = true from hs) Bool.false_ne_true
  | _ => cases y <;> exact absurd (show false = true from hs) Bool.false_ne_true

theorem op_lt : OpR X (compareOp .Lt) (rI0 fun i j => .bl (decide (i < j))) := opB0 fun _ _ _ _ _ _ _ q => lt_int q
theorem op_le : OpR X (compareOp .LtE) (rI0 fun i j => .bl (decide (i ≤ j))) := opB0 fun _ _ _ _ _ _ _ q => le_int q
theorem op_gt : OpR X (compareOp .Gt) (rI0 fun i j => .bl (decide (j < i))) := opB0 fun _ _ _ _ _ _ _ q => gt_int q

/-- is None, is not None: the right side a value none -/
theorem op_isN : OpR X (compareOp .Is) (fun x y H Q => y = .non ∧ Q (.bl (decide (x = .non))) H) := by
  intro pins s σ H x y v u Q I rx ry h
  obtain ⟨rfl, q⟩ := h
  cases ry
  refine is_none_gen (fin_bl I q ?_)
  cases x <;> first
    | (cases rx; rfl)
    | (obtain ⟨t, rfl⟩ := rx; rfl)



theorem nomark (b : Expr) {op : CmpOp} (h : op ≠ .In := by decide) (h2 : op ≠ .NotIn := by decide) : behindInMarks op b = false := by
  have e1 : (op == CmpOp.In) = false := by cases op <;> first | rfl | exact absurd rfl h
  have e2 : (op == CmpOp.NotIn) = false := by cases op <;> first | rfl | exact absurd rfl h2
  cases b <;> simp [behindInMarks, e1, e2]
/-- a comparison as a value; hm: nomark b, or (for in, not in) by with_unfolding_all rfl -/
theorem pe_cmpR {op : CmpOp} {r : R2} (ho : OpR X (compareOp op) r) (ha : PE X a ta) (hb : PE X b tb) (hm : behindInMarks op b = false) : PE X (.Compare a [op] [b] pos) (tOp r ta tb) := by
  intro pins s σ H Q I h
  exact wpAny_Compare1 (binT ha hb I h fun v u s2 x y H2 I2 rx ry q => ho pins s2 σ H2 x y v u Q I2 rx ry q) hm
/-- a reading of a value as a test -/
def tTest (t : TE) : TT := fun σ H Q => t σ H fun x H' => ∃ k, x = .bl k ∧ Q k H'
theorem pt_cmpR {op : CmpOp} {r : R2} (ho : OpR X (compareOp op) r) (ha : PE X a ta) (hb : PE X b tb) (hm : behindInMarks op b = false) : PT X (.Compare a [op] [b] pos) (tTest (tOp r ta tb)) := by
  intro pins s σ H Q I h
  refine wpAny_isTrue_Compare1 (thn (ha pins s σ H _ I h) fun v s1 ⟨x, H1, I1, r1, q1⟩ => thn (hb pins s1 σ H1 _ I1 q1) fun u s2 ⟨y, H2, I2, r2, q2⟩ =>
    thn (ho pins s2 σ H2 x y v u _ I2 r1 r2 q2) fun c s3 ⟨z, H3, I3, r3, k, e, q3⟩ => ?_) hm
  subst e
  cases r3
  exact wpAny_truthy_bool ⟨H3, I3, q3⟩
/-- a op1 b op2 c -/
def tChain (r r' : R2) (ta tb tc : TE) : TE := fun σ H Q => ta σ H fun x H1 => tb σ H1 fun y H2 => r x y H2 fun z H3 => ∃ k, z = .bl k ∧
  (if k = true then tc σ H3 fun w' H4 => r' y w' H4 Q else Q (.bl false) H3)
theorem pe_chain {op op' : CmpOp} {r r' : R2} (ho : OpR X (compareOp op) r) (ho' : OpR X (compareOp op') r') (ha : PE X a ta) (hb : PE X b tb) (hc : PE X c tc)
    (hm : lastMarks [op, op'] [b, c] = false := by with_unfolding_all rfl) : PE X (.Compare a [op, op'] [b, c] pos) (tChain r r' ta tb tc) := by
  intro pins s σ H Q I h
  refine Compare_chain (thn (ha pins s σ H _ I h) fun v s1 ⟨x, H1, I1, r1, q1⟩ => chain_link (thn (hb pins s1 σ H1 _ I1 q1) fun u s2 ⟨y, H2, I2, r2, q2⟩ =>
    thn (ho pins s2 σ H2 x y v u _ I2 r1 r2 q2) fun d s3 ⟨z, H3, I3, r3, k, e, q3⟩ => ?_)) hm
  subst e
  cases r3
  refine wpAny_truthy_bool ?_
  cases k with
  | false => exact ite_ff ⟨.bl false, H3, I3, rfl, q3⟩
  | true => exact ite_tt (chain_last (thn (hc pins s3 σ H3 _ I3 q3) fun w' s4 ⟨z', H4, I4, r4, q4⟩ => ho' pins s4 σ H4 y z' u w' Q I4 r2 r4 q4))

/-! ### truth -/
theorem line63 : (sizeLine : Nat) < 2 ^ 63 := by rw [sizeLine_eq]; decide

/-! ### strs and bytes -/


/-! ### scalar builtins, by CallR -/
theorem vals1 {x : V} {us : List Value} (r : Vals [x] us) : ∃ u, us = [u] ∧ RelV x u := by
  cases r with
  | cons r1 r2 => cases r2; exact ⟨_, rfl, r1⟩
theorem vals2 {x y : V} {us : List Value} (r : Vals [x, y] us) : ∃ u w', us = [u, w'] ∧ RelV x u ∧ RelV y w' := by
  cases r with
  | cons r1 r2 =>
    cases r2 with
    | cons r3 r4 => cases r4; exact ⟨_, _, rfl, r1, r3⟩
theorem call_min2 (hc : X.calm = true) : CallR X (.builtin "min") (fun xs H Q => ∃ i j, xs = [.int i, .int j] ∧ Q (.int (if j < i then j else i)) H) := by
  intro pins s σ H xs us Q I r h
  obtain ⟨i, j, rfl, q⟩ := h
  obtain ⟨u, w', rfl, ⟨t, rfl⟩, ⟨t', rfl⟩⟩ := vals2 r
  refine min_two_ints (I.ok.hd hc) fun h' tk k => ⟨_, H, I.kept k, ?_, q⟩
  by_cases hj : j < i
  · rw [if_pos hj, if_pos hj]; exact ⟨_, rfl⟩
  · rw [if_neg hj, if_neg hj]; exact ⟨_, rfl⟩
end
end L2

namespace L2
open PySem PySem.Spec PyProof.Rows

/-! ### an instance, its attributes a map -/
structure ObjM (h : Heap) (x dx C : Addr) (mA : Str → Option Value) : Prop where
  obj : h.get? x = some (PySem.W.instObj C dx)
  ns : h.Ns1 dx mA
  ne : dx ≠ x

theorem lookIn_ns {h : Heap} {dx : Addr} {mA : Str → Option Value} (n : h.Ns1 dx mA) : ∃ od, h.get? dx = some od ∧ ∀ name, PySem.W.lookIn name od = some (mA name) := by
  obtain ⟨o, es, ep, ho, hd, hk, _, hm⟩ := n
  refine ⟨o, ho, fun name => ?_⟩
  have e := hm name
  unfold nsFind findBy at e
  rw [← Array.find?_toList] at e
  unfold PySem.W.lookIn
  rw [hd]
  dsimp only
  split
  · rename_i y q
    rw [q] at e
    exact congrArg some e
  · rename_i q
    rw [q] at e
    have a : es.toList.any (·.refKey) = false := by
      rw [List.any_eq_false]
      intro y hy
      obtain ⟨z, t, hkey⟩ := hk y (Array.mem_toList_iff.mp hy)
      simp [DictEntry.refKey, hkey]
    have a' : ¬ es.toList.any (·.refKey) = true := by rw [a]; exact Bool.false_ne_true
    rw [if_neg a']
    exact congrArg some e

theorem ObjM.look {h : Heap} {x dx C : Addr} {mA : Str → Option Value} (I : ObjM h x dx C mA) : ∃ od, PySem.W.InstAt h x (PySem.W.instObj C dx) C (some od) ∧ ∀ name, PySem.W.lookIn name od = some (mA name) :=
  let ⟨od, ho, hl⟩ := lookIn_ns I.ns
  ⟨od, ⟨I.obj, rfl, rfl, ho⟩, hl⟩

section
variable {prog : Program} {w : World} {A : Around} {E : Value → Shared → Prop} {s : Shared} {K : PySem.W.Frag} {x dx C f : Addr} {mA : Str → Option Value} {name : Str} {v : Value}

theorem get_map {expr : Bool} {Q : Value → Shared → Prop} (X : K.In s.heap) (I : ObjM s.heap x dx C mA) (hg : PySem.W.plainGet K C name = true) (hh : PySem.W.hasDictIn K C = true)
    (ha : PySem.W.findIn K (.ref C) name = some none) (hv : mA name = some v) (hv' : PySem.W.handedIn v = true) (h : Q v { s with toks := s.toks + 1 }) :
    wpAny (model prog w) A (getAttr (.ref x) name expr) Q E s := by
  obtain ⟨od, J, hl⟩ := I.look
  exact PySem.W.get_value X J (PySem.W.plainGet_of hg).1 (PySem.W.findObj_own hh ha rfl (by rw [hl, hv])) hv' h


theorem get_meth {pl : Sem Bool} {Q : Value × List Value → Shared → Prop} (X : K.In s.heap) (I : ObjM s.heap x dx C mA) (hg : PySem.W.plainGet K C name = true)
    (hf : PySem.W.findIn K (.ref C) name = some (some (.ref f))) (ht : PySem.W.isFn K (.ref f) = true) (hv : mA name = none) (h : Q (.ref f, [.ref x]) s) :
    wpAny (model prog w) A (getMethod (.ref x) name pl) Q E s := by
  obtain ⟨od, J, hl⟩ := I.look
  exact PySem.W.method_fn X J (PySem.W.plainGet_of hg).1 (PySem.W.plainGet_of hg).2 hf (beq_iff_eq.mp ht) (by show (PySem.W.lookIn name od).map (·.isSome) = some false; rw [hl, hv]; rfl) h

theorem set_map {ns : List Str} {Q : Unit → Shared → Prop} (X : K.In s.heap) (I : ObjM s.heap x dx C mA)
    (hs : PySem.W.findIn K (.ref C) "__setattr__" = some (some (.builtin "object.__setattr__"))) (hp : PySem.W.plainOver K C = true) (ht : PySem.W.takerIn K C name = some none) (hh : PySem.W.hasDictIn K C = true)
    (hw : PySem.Within mA ns) (hsz : ns.length ≤ sizeLine)
    (h : ∀ h', ObjM h' x dx C (fun y => if y = name then some v else mA y) → Heap.SameBut dx s.heap h' → Q () { s with heap := h', toks := s.toks + 2 }) :
    wpAny (model prog w) A (setAttr (.ref x) name v) Q E s := by
  obtain ⟨od, J, hl⟩ := I.look
  refine PySem.W.set_plain X J hs (PySem.W.osa_open (s := { s with toks := s.toks + 1 }) (r := none) X J hp ht fun b => ?_)
  obtain ⟨cd, hc, hd'⟩ := PySem.W.any_some hh
  have hx : s.heap.get? x = some ⟨.ref C, some dx, .plain, #[]⟩ := I.obj
  refine wpAny_bind (wpAny_pure (wpAny_bind (wpAny_bind (wpAny_loadPart hx (wpAny_bind (PySem.W.Looks.here (s := { s with toks := s.toks + 1 }) (PySem.W.looks_clsIn X hc) ?_))))))
  rw [hd']
  refine wpAny_pure (a := some dx) (wpAny_bind (wpAny_pure (wpAny_bind ?_)))
  refine wpAny_nsSet1 (s := { s with toks := s.toks + 1 }) I.ns fun h' hn2 hs2 => ?_
  obtain ⟨oD, esD, epD, hoD, hdD, hcD⟩ := hn2.count (PySem.Within.cons name v hw)
  refine wpAny_bind (wpAny_lookBehind hoD (by rw [hdD]; exact pastItsLine_dict (Nat.le_trans hcD (by rw [List.length_cons]; omega))) ?_)
  exact wpAny_pure (h _ ⟨(hs2.2 _ (Ne.symm I.ne)).trans I.obj, hn2, I.ne⟩ hs2)

/-- C(..): the dict at the heap's end, the instance behind it; then its __init__ -/
theorem make_map {R : Result → Shared → Prop} {vs : List Value} {kw : List (Str × Value)} (X : K.In s.heap) (hm : PySem.W.makesIn K C = true)
    (hi : PySem.W.findIn K (.ref C) "__init__" = some (some (.ref f))) (hf : PySem.W.typeIn K (.ref f) = some (.type "function"))
    (h : codeAny (model prog w) (A.under (.builtin "type.__call__" ⟨.ref C :: vs, kw⟩)) (.call (.ref f) ⟨.ref (s.heap.objs.size + 1) :: vs, kw⟩) (PySem.W.InitBack (s.heap.objs.size + 1) R)
      { s with heap := (s.heap.push PySem.W.emptyDict).push (PySem.W.instObj C s.heap.objs.size) }) :
    codeAny (model prog w) A (.call (.ref C) ⟨vs, kw⟩) R s := by
  obtain ⟨hh, g, d, t, os⟩ := s
  exact PySem.W.make_core (PySem.W.makes_of X hm) (PySem.W.looks_findIn X hi) (fun self => PySem.W.bind_fn X self hf) (.inl rfl) h
end

/-! ### the attributes as a list of pairs -/
def putF (f : Str) (v : V) : List (Str × V) → List (Str × V)
  | [] => [(f, v)]
  | (g, x) :: r => if g = f then (g, v) :: r else (g, x) :: putF f v r
theorem lookup_putF (f g : Str) (v : V) : ∀ fs : List (Str × V), (putF f v fs).lookup g = if g = f then some v else fs.lookup g
  | [] => by
    show List.lookup g [(f, v)] = _
    by_cases h : g = f
    · have hb : (g == f) = true := beq_iff_eq.mpr h
      simp only [List.lookup, hb, if_pos h]
    · have hb : (g == f) = false := beq_eq_false_iff_ne.mpr h
      simp only [List.lookup, hb, if_neg h]
  | (k, x) :: r => by
    have ih := lookup_putF f g v r
    rw [show putF f v ((k, x) :: r) = (if k = f then (k, v) :: r else (k, x) :: putF f v r) from rfl]
    by_cases hk : k = f
    · rw [if_pos hk]
      by_cases h : g = k
      · have hb : (g == k) = true := beq_iff_eq.mpr h
        simp only [List.lookup, hb, if_pos (h.trans hk)]
      · have hb : (g == k) = false := beq_eq_false_iff_ne.mpr h
        simp only [List.lookup, hb, if_neg (fun e : g = f => h (e.trans hk.symm))]
    · rw [if_neg hk]
      by_cases h : g = k
      · have hb : (g == k) = true := beq_iff_eq.mpr h
        simp only [List.lookup, hb, if_neg (fun e : g = f => hk (h.symm.trans e))]
      · have hb : (g == k) = false := beq_eq_false_iff_ne.mpr h
        simp only [List.lookup, hb]
        exact ih
theorem keys_putF (f : Str) (v : V) : ∀ fs : List (Str × V), f ∈ (putF f v fs).map (·.1) ∧ ∀ g, g ∈ fs.map (·.1) → g ∈ (putF f v fs).map (·.1)
  | [] => ⟨by simp [putF], fun g h => by simp at h⟩
  | (k, x) :: r => by
    obtain ⟨i1, i2⟩ := keys_putF f v r
    rw [show putF f v ((k, x) :: r) = (if k = f then (k, v) :: r else (k, x) :: putF f v r) from rfl]
    by_cases hk : k = f
    · rw [if_pos hk]
      subst hk
      exact ⟨by simp, fun g h => by simpa using h⟩
    · rw [if_neg hk]
      refine ⟨?_, fun g h => ?_⟩
      · rw [List.map_cons]
        exact List.mem_cons_of_mem _ i1
      · rw [List.map_cons] at h ⊢
        rcases List.mem_cons.mp h with e | e
        · exact List.mem_cons.mpr (.inl e)
        · exact List.mem_cons_of_mem _ (i2 g e)
theorem length_putF (f : Str) (v : V) : ∀ fs : List (Str × V), (putF f v fs).length ≤ fs.length + 1
  | [] => by simp [putF]
  | (k, x) :: r => by
    have ih := length_putF f v r
    rw [show putF f v ((k, x) :: r) = (if k = f then (k, v) :: r else (k, x) :: putF f v r) from rfl]
    by_cases hk : k = f
    · rw [if_pos hk, List.length_cons, List.length_cons]; omega
    · rw [if_neg hk, List.length_cons, List.length_cons]; omega

theorem RelO.some_of {v : V} {o : Option Value} (r : RelO (some v) o) : ∃ u, o = some u ∧ RelV v u := by
  cases o with
  | none => exact (show False from r).elim
  | some u => exact ⟨u, rfl, r⟩
theorem RelO.none_of {o : Option Value} (r : RelO none o) : o = none := by
  cases o with
  | none => rfl
  | some u => exact (show False from r).elim
theorem handed_of {v : V} {u : Value} (r : RelV v u) : PySem.W.handedIn u = true := by
  cases v with
  | non => cases (show u = Value.none from r); rfl
  | bl b => cases (show u = Value.bool b from r); rfl
  | int i => obtain ⟨t, e⟩ := (show ∃ t, u = Value.int i t from r); cases e; rfl
  | str x => obtain ⟨t, e⟩ := (show ∃ t, u = Value.str x t from r); cases e; rfl
  | byt b => obtain ⟨t, e⟩ := (show ∃ t, u = Value.bytes b t from r); cases e; rfl
  | flt b => obtain ⟨t, e⟩ := (show ∃ t, u = Value.float b t from r); cases e; rfl
  | ref a => cases (show u = Value.ref a from r); rfl
  | ty n => cases (show u = Value.type n from r); rfl

section
variable {P : Program} {w : World} {H H' : Hp} {h h' : Heap} {a C dx : Addr} {fs fs' : List (Str × V)}
theorem ins_get (hok : HOk P w H h) (e : H a = some (.ins C dx fs)) : ∃ mA, ObjM h a dx C mA ∧ (∀ f, RelO (fs.lookup f) (mA f)) ∧ PySem.Within mA (fs.map (·.1)) ∧ fs.length ≤ 1000 ∧ H dx = some (.own a) := by
  obtain ⟨d, z, ne, ob, mA, n, r, q⟩ := (show ObjOk P w H h a (.ins C dx fs) from hok a _ e)
  exact ⟨mA, ⟨ob, n, ne⟩, r, q, z, d⟩
end

/-! ### what of the text a class must have -/
structure Cls (K : PySem.W.Frag) (C : Addr) : Prop where
  pg : PySem.W.plainGet K C Str.empty = true
  hd : PySem.W.hasDictIn K C = true
  po : PySem.W.plainOver K C = true
  sa : PySem.W.findIn K (.ref C) "__setattr__" = some (some (.builtin "object.__setattr__"))
theorem Cls.get {K : PySem.W.Frag} {C : Addr} (c : Cls K C) (f : Str) : PySem.W.plainGet K C f = true := c.pg
/-- no class of it has the name -/
def NoAttr (K : PySem.W.Frag) (C : Addr) (f : Str) : Prop := PySem.W.findIn K (.ref C) f = some none
theorem NoAttr.taker {K : PySem.W.Frag} {C : Addr} {f : Str} (n : NoAttr K C f) : PySem.W.takerIn K C f = some none := by
  unfold PySem.W.takerIn
  rw [show PySem.W.findIn K (.ref C) f = some none from n]
  rfl
/-- a constant of the class -/
structure Con (K : PySem.W.Frag) (C : Addr) (f : Str) (v : V) (u : Value) : Prop where
  at_ : PySem.W.findIn K (.ref C) f = some (some u)
  rel : RelV v u
  get : PySem.W.specialIn K u "__get__" = some none
  cp : PySem.W.copiedNames.contains f = false
/-- a method: a plain def of the class or of one above it -/
structure Meth (K : PySem.W.Frag) (C : Addr) (m : Str) (f : Addr) : Prop where
  at_ : PySem.W.findIn K (.ref C) m = some (some (.ref f))
  fn : PySem.W.isFn K (.ref f) = true
  kp : PySem.W.keepIn K (.ref f) = true

section
variable {X : Cx} {pins : List (Addr × Obj)} {σ : St} {H : Hp} {s : Shared} {a C dx : Addr} {fs : List (Str × V)} {f : Str} {v : V} {A : Around} {E : Value → Shared → Prop}

theorem getattr_ok {b : Bool} {Q : Value → Shared → Prop} (I : Inv X pins σ H s) (e : H a = some (.ins C dx fs)) (c : Cls X.K C) (n : NoAttr X.K C f) (l : fs.lookup f = some v)
    (h : ∀ u s', Inv X pins σ H s' → RelV v u → Q u s') : wpAny (model X.prog X.w) A (getAttr (.ref a) f b) Q E s := by
  obtain ⟨mA, O, r, _, _, _⟩ := ins_get I.hok e
  obtain ⟨u, hu, ru⟩ := RelO.some_of (v := v) (o := mA f) (by rw [← l]; exact r f)
  exact get_map I.kIn O (c.get f) c.hd n hu (handed_of ru) (h u _ (I.tok _) ru)


theorem getmeth_ok {m : Str} {g : Addr} {pl : Sem Bool} {Q : Value × List Value → Shared → Prop} (I : Inv X pins σ H s) (e : H a = some (.ins C dx fs)) (c : Cls X.K C) (k : Meth X.K C m g) (l : fs.lookup m = none)
    (h : Q (.ref g, [.ref a]) s) : wpAny (model X.prog X.w) A (getMethod (.ref a) m pl) Q E s := by
  obtain ⟨mA, O, r, _, _, _⟩ := ins_get I.hok e
  have hn : mA m = none := RelO.none_of (by rw [← l]; exact r m)
  exact get_meth I.kIn O (c.get m) k.at_ k.fn hn h

theorem setattr_ok {y : V} {u : Value} {Q : Unit → Shared → Prop} (I : Inv X pins σ H s) (e : H a = some (.ins C dx fs)) (c : Cls X.K C) (n : NoAttr X.K C f) (hl : fs.length < 1000) (ry : RelV y u)
    (h : ∀ s', Inv X pins σ (upd H a (.ins C dx (putF f y fs))) s' → Q () s') : wpAny (model X.prog X.w) A (setAttr (.ref a) f u) Q E s := by
  obtain ⟨mA, O, r, wi, _, ho⟩ := ins_get I.hok e
  have hz : (fs.map (·.1)).length ≤ sizeLine := by rw [List.length_map, sizeLine_eq]; omega
  refine set_map I.kIn O c.sa c.po n.taker c.hd wi hz fun h' O' sb => h _ ?_
  have hd : ∃ o, h'.get? dx = some o := let ⟨o, _, _, e', _⟩ := O'.ns; ⟨o, e'⟩
  refine I.write (x := a) (e := dx) (by rw [e]; exact True.intro) (.inr ho) (fun b q hb z => (sb.2 b hb).trans z) hd ?_
  refine ⟨by rw [upd_ne O.ne]; exact ho, ?_, O.ne, O'.obj, _, O'.ns, fun g => ?_, fun g hg => ?_⟩
  · have := length_putF f y fs; omega
  · show RelO ((putF f y fs).lookup g) (if g = f then some u else mA g)
    rw [lookup_putF]
    by_cases q : g = f
    · rw [if_pos q, if_pos q]; exact ry
    · rw [if_neg q, if_neg q]; exact r g
  · by_cases q : g = f
    · rw [q]; exact (keys_putF f y fs).1
    · refine (keys_putF f y fs).2 g (wi g fun z => hg ?_)
      show (if g = f then some u else mA g) = none
      rw [if_neg q]; exact z

/-- a new instance, tracked, without attributes -/
theorem Inv.made (I : Inv X pins σ H s) : Inv X pins σ (upd (upd H s.heap.objs.size (.own (s.heap.objs.size + 1))) (s.heap.objs.size + 1) (.ins C s.heap.objs.size []))
    { s with heap := (s.heap.push PySem.W.emptyDict).push (PySem.W.instObj C s.heap.objs.size) } := by
  have e1 : (s.heap.push PySem.W.emptyDict).get? s.heap.objs.size = some PySem.W.emptyDict := Heap.get?_push_size s.heap rfl
  have e2 : ((s.heap.push PySem.W.emptyDict).push (PySem.W.instObj C s.heap.objs.size)).get? (s.heap.objs.size + 1) = some (PySem.W.instObj C s.heap.objs.size) := by
    have := Heap.get?_push_size (s.heap.push PySem.W.emptyDict) (o := PySem.W.instObj C s.heap.objs.size) rfl
    rwa [Heap.size_push] at this
  have e3 : (s.heap.push PySem.W.emptyDict).Ns s.heap.objs.size (fun _ => none) := ⟨PySem.W.emptyDict, #[], _, e1, rfl, (fun e he => absurd he (by simp)), fun _ => rfl⟩
  have I1 := I.laid (a := s.heap.objs.size) (o := .own (s.heap.objs.size + 1)) (h' := s.heap.push PySem.W.emptyDict) (t' := s.toks) (fun b u q => Heap.get?_push_of_some _ q) (Nat.le_refl _) ⟨_, e1⟩
  refine I1.laid (a := s.heap.objs.size + 1) (o := .ins C s.heap.objs.size []) (t' := s.toks) (fun b u q => Heap.get?_push_of_some _ q) (Nat.le_of_eq (Heap.size_push _ _)) ?_
  have ne : s.heap.objs.size ≠ s.heap.objs.size + 1 := Nat.ne_of_lt (Nat.lt_succ_self _)
  refine ⟨by rw [upd_ne ne, upd_same], Nat.zero_le _, ne, e2, fun _ => none, (Heap.Ns1.of_empty e3).at fun o q => Heap.get?_push_of_some _ q, fun _ => True.intro, fun y hy => absurd rfl hy⟩

/-- e.f where nothing but the object is asked: through attributeBase (super) and the last hold -/
theorem attr_of {prog : Program} {w : World} {env : Env} {e : Expr} {f : Str} {pos : Pos} {s : Shared} {Q : Value → Shared → Prop} (hb : attributeBase e f env (eval e env) = eval e env)
    (h : wpAny (model prog w) A (eval e env) (fun o s₁ => wpAny (model prog w) A (getAttr o f true) Q E s₁) E s) : wpAny (model prog w) A (eval (.Attribute e f pos) env) Q E s :=
  Attribute_any_ h (by rw [arm_eval_Attribute, hb])
end

/-! ### readings and rules -/
/-- e.f, an attribute of the instance -/
def tFld (K : PySem.W.Frag) (ta : TE) (f : Str) : TE := fun σ H Q => ta σ H fun x H1 => ∃ a C dx fs v, x = .ref a ∧ H1 a = some (.ins C dx fs) ∧ Cls K C ∧ NoAttr K C f ∧ fs.lookup f = some v ∧ Q v H1
/-- e.f = value -/
def sFld (K : PySem.W.Frag) (ta tv : TE) (f : Str) : TS := fun D σ H => tv σ H fun y H1 => ta σ H1 fun x H2 => ∃ a C dx fs, x = .ref a ∧ H2 a = some (.ins C dx fs) ∧ Cls K C ∧ NoAttr K C f ∧ fs.length < 1000 ∧
  D.nx σ (upd H2 a (.ins C dx (putF f y fs)))

section
variable {X : Cx} {o e value : Expr} {f : Str} {pos pos' tpos : Pos} {ta tv : TE}
theorem pe_fld (he : PE X e ta) (hb : attributeBase e f X.env (eval e X.env) = eval e X.env) : PE X (.Attribute e f pos) (tFld X.K ta f) := by
  intro pins s σ H Q I h
  refine attr_of hb (thn (he pins s σ H _ I h) fun u s1 hh => ?_)
  obtain ⟨x, H1, I1, rx, a, C, dx, fs, v, ex, ea, c, n, l, q⟩ := hh
  subst ex
  obtain rfl : u = Value.ref a := rx
  exact getattr_ok I1 ea c n l fun u' s2 I2 ru => ⟨v, H1, I2, ru, q⟩
theorem ps_fld (ha : PE X o ta) (hv : PE X value tv) (hs : swapsWith value (some (.Attribute o f pos')) pos.line X.env = pure false) : PS X (.Assign [.Attribute o f pos'] value pos) (sFld X.K ta tv f) := by
  intro pins s σ H D I h
  refine plainObj_wpAny_Assign_Attribute (thn (hv pins s σ H _ I h) fun u s1 ⟨y, H1, I1, ry, q⟩ => thn (ha pins s1 σ H1 _ I1 q) fun ov s2 hh => ?_) hs
  obtain ⟨x, H2, I2, rx, a, C, dx, fs, ex, ea, c, n, l, q2⟩ := hh
  subst ex
  obtain rfl : ov = Value.ref a := rx
  exact setattr_ok I2 ea c n l ry fun s3 I3 => ⟨σ, _, I3, q2⟩

end

/-! ### isinstance -/
section
variable {X : Cx} {pins : List (Addr × Obj)} {σ : St} {H : Hp} {s : Shared} {A : Around} {E : Value → Shared → Prop} {Q : Value → Shared → Prop} {c : Value} {b : Bool}
/-- the type of a value, as the fragment's deciders take it; for an instance its class -/
inductive TyOf (K : PySem.W.Frag) (H : Hp) : V → Value → Prop where
  | non : TyOf K H .non (.type "NoneType")
  | bl (x : Bool) : TyOf K H (.bl x) (.type "bool")
  | int (i : Int) : TyOf K H (.int i) (.type "int")
  | str (x : Str) : TyOf K H (.str x) (.type "str")
  | flt (x : UInt64) : TyOf K H (.flt x) (.type "float")
  | lst {a : Addr} {xs : List V} (e : H a = some (.lst xs)) : TyOf K H (.ref a) (.type "list")
  | frz {a : Addr} {o : Obj} {xs : List V} (e : H a = some (.frz o (.lst xs))) : TyOf K H (.ref a) (.type "list")
  | tup {a : Addr} {xs : List V} (e : H a = some (.tup xs)) : TyOf K H (.ref a) (.type "tuple")
  | dK {a : Addr} {kvs : List (Key × V)} (e : H a = some (.dK kvs)) : TyOf K H (.ref a) (.type "dict")
  | dT {a : Addr} {kvs : List (List Key × V)} (e : H a = some (.dT kvs)) : TyOf K H (.ref a) (.type "dict")
  | ins {a C dx : Addr} {fs : List (Str × V)} (e : H a = some (.ins C dx fs)) (cl : Cls K C) (ha : PySem.W.findIn K (.ref C) "__class__" = some (some (.builtin "object.__class__")))
      (hn : PySem.W.specialIn K (.builtin "object.__class__") "__get__" = some (some (.builtin "getset_descriptor.__get__"))) (htk : PySem.W.takesIn K (.builtin "object.__class__") = some true)
      (hm : PySem.W.mroIn K C (.type "object") = some true) : TyOf K H (.ref a) (.ref C)
/-- isinstance(x, c) for one class c, a built-in or an own one: kitOne's answer -/
theorem isinst_ok {x : V} {u t : Value} (I : Inv X pins σ H s) (rx : RelV x u) (ty : TyOf X.K H x t) (e : PySem.W.kitOne X.K t c = some b) (h : ∀ tk, Q (.bool b) { s with toks := tk }) :
    wpAny (model X.prog X.w) A (call (.builtin "isinstance") [u, c]) Q E s := by
  cases ty with
  | non => cases (show u = Value.none from rx); exact PySem.W.kia_one PySem.W.kitx_none I.kIn True.intro e (fun z => nomatch z) h
  | bl y => cases (show u = Value.bool y from rx); exact PySem.W.kia_one PySem.W.kitx_bool I.kIn True.intro e (fun z => nomatch z) h
  | int i => obtain ⟨t, q⟩ := (show ∃ t, u = Value.int i t from rx); cases q; exact PySem.W.kia_one PySem.W.kitx_int I.kIn True.intro e (fun z => nomatch z) h
  | str y => obtain ⟨t, q⟩ := (show ∃ t, u = Value.str y t from rx); cases q; exact PySem.W.kia_one PySem.W.kitx_str I.kIn True.intro e (fun z => nomatch z) h
  | flt y => obtain ⟨t, q⟩ := (show ∃ t, u = Value.float y t from rx); cases q; exact PySem.W.kia_one PySem.W.kitx_float I.kIn True.intro e (fun z => nomatch z) h
  | @lst a xs ea =>
    cases (show u = Value.ref a from rx)
    obtain ⟨_, _, n, _, h1⟩ := (show ObjOk X.prog X.w H s.heap a (.lst xs) from I.hok a _ ea)
    exact PySem.W.kia_one PySem.W.kitx_list I.kIn ⟨_, h1, rfl⟩ e (fun z => nomatch z) h
  | @frz a ob xs ea =>
    cases (show u = Value.ref a from rx)
    obtain ⟨_, _, _, n, _, h1⟩ := (show ObjOk X.prog X.w H s.heap a (.frz ob (.lst xs)) from I.hok a _ ea)
    exact PySem.W.kia_one PySem.W.kitx_list I.kIn ⟨_, h1, rfl⟩ e (fun z => nomatch z) h
  | @tup a xs ea =>
    cases (show u = Value.ref a from rx)
    obtain ⟨_, _, _, p⟩ := (show ObjOk X.prog X.w H s.heap a (.tup xs) from I.hok a _ ea)
    obtain ⟨o, h1, h2, _⟩ := p
    exact PySem.W.kia_one PySem.W.kitx_tuple I.kIn ⟨o, h1, h2⟩ e (fun z => nomatch z) h
  | @dK a kvs ea =>
    cases (show u = Value.ref a from rx)
    obtain ⟨_, _, vs, _, p⟩ := (show ObjOk X.prog X.w H s.heap a (.dK kvs) from I.hok a _ ea)
    obtain ⟨o, es, ep, h1, h2, _⟩ := p
    exact PySem.W.kia_one PySem.W.kitx_dict I.kIn ⟨o, h1, h2.1⟩ e (fun z => nomatch z) h
  | @dT a kvs ea =>
    cases (show u = Value.ref a from rx)
    obtain ⟨_, _, xs, _, o, es, ep, h1, h2, _⟩ := (show ObjOk X.prog X.w H s.heap a (.dT kvs) from I.hok a _ ea)
    exact PySem.W.kia_one PySem.W.kitx_dict I.kIn ⟨o, h1, h2.1⟩ e (fun z => nomatch z) h
  | @ins a C dx fs ea cl ha hn htk hm =>
    cases (show u = Value.ref a from rx)
    obtain ⟨mA, O, _⟩ := ins_get I.hok ea
    obtain ⟨od, J, _⟩ := O.look
    exact PySem.W.kia_one (PySem.W.kitx_own (cl.get _) cl.hd ha hn htk hm) I.kIn J e (fun z => nomatch z) h
end
end L2

namespace L2
open PySem PySem.Spec PyProof.Rows

/-! ### room -/
structure Room (k : Nat) (A : Around) : Prop where
  hd : A.handled = none
  dp : A.depth + 3 * k + 5 < recursionLimit
  un : A.units + 16 * k + 200 < cLine
theorem Room.mono {j k : Nat} {A : Around} (r : Room k A) (h : j ≤ k) : Room j A := ⟨r.hd, by have := r.dp; omega, by have := r.un; omega⟩
theorem Room.deeper {k : Nat} {A : Around} (r : Room (k + 1) A) (env : Env) : Room k (A.deeper env) :=
  ⟨r.hd, by have := r.dp; show A.depth + 1 + 3 * k + 5 < _; omega, by have := r.un; show A.units + 3 + 16 * k + 200 < _; omega⟩
theorem make_depth {A : Around} {C : Addr} {us : List Value} {kw : List (Str × Value)} : (A.under (.builtin "type.__call__" ⟨.ref C :: us, kw⟩)).depth = A.depth + 1 := by
  first | rfl | simp [Around.under, Code.weight, Code.isCreation, Code.isGuard, Code.isCaller, Code.frames, Code.isFrame, guardIds]
theorem make_units {A : Around} {C : Addr} {us : List Value} {kw : List (Str × Value)} : (A.under (.builtin "type.__call__" ⟨.ref C :: us, kw⟩)).units = A.units + 1 := by
  first | rfl | simp [Around.under, Code.cUnits, Code.frames, Code.isFrame]
theorem Room.make {k : Nat} {A : Around} (r : Room (k + 1) A) (C : Addr) (us : List Value) (kw : List (Str × Value)) : Room k (A.under (.builtin "type.__call__" ⟨.ref C :: us, kw⟩)) :=
  ⟨r.hd, by have := r.dp; rw [make_depth]; omega, by have := r.un; rw [make_units]; omega⟩
theorem Room.depth {k : Nat} {A : Around} (r : Room k A) : A.depth < recursionLimit := by have := r.dp; omega
theorem Room.units {k : Nat} {A : Around} (r : Room k A) : A.units + 64 < cLine := by have := r.un; omega

/-! ### argument lists and displays -/
def tNil : TA := fun _ H Q => Q [] H
def tCons (ta : TE) (tr : TA) : TA := fun σ H Q => ta σ H fun x H1 => tr σ H1 fun xs H2 => Q (x :: xs) H2
section
variable {X : Cx} {e : Expr} {es : List Expr} {te : TE} {t : TA} {pos : Pos}
theorem pa_nil : PA X [] tNil := fun _ _ _ _ H Q I h => Calls.spliced_nil ⟨[], H, I, .nil, h⟩
theorem pa_cons (ha : PE X e te) (hr : PA X es t) (hs : starEach (e :: es) X.env = (false, eval e X.env) :: starEach es X.env := by rfl) : PA X (e :: es) (tCons te t) := by
  intro pos pins s σ H Q I h
  rw [hs]
  show wpAny _ _ (spliced ((false, eval e X.env) :: backTo pos (starEach es X.env))) _ _ s
  refine Calls.spliced_cons (thn (ha pins s σ H _ I h) fun u s1 ⟨x, H1, I1, r1, q1⟩ => ?_)
  exact thn (hr pos pins s1 σ H1 _ I1 q1) fun us s2 ⟨xs, H2, I2, r2, q2⟩ => ⟨x :: xs, H2, I2, .cons r1 r2, q2⟩

/-- a tuple, a list of written items -/
def tTup (t : TA) : TE := fun σ H Q => t σ H fun xs H1 => xs.length ≤ sizeLine ∧ ∀ p, H1 p = none → Q (.ref p) (upd H1 p (.tup xs))
def tLst (t : TA) : TE := fun σ H Q => t σ H fun xs H1 => xs.length ≤ sizeLine ∧ ∀ p, H1 p = none → Q (.ref p) (upd H1 p (.lst xs))
theorem pe_tup {x1} (h : PA X es t) : PE X (.Tuple es x1 pos) (tTup t) := by
  intro pins s σ H Q I hq
  refine wpAny_Tuple_spliced (thn (h pos pins s σ H _ I hq) fun us s1 ⟨xs, H1, I1, r, z, q⟩ => ⟨by rw [← r.length]; exact z, ?_⟩)
  have hf : H1 s1.heap.objs.size = none := I1.hok.fresh (Nat.le_refl _)
  refine ⟨.ref s1.heap.objs.size, upd H1 s1.heap.objs.size (.tup xs), I1.laid (t' := s1.toks) (fun b u e => Heap.get?_push_of_some _ e) (Nat.le_refl _) ?_, rfl, q _ hf⟩
  exact ⟨z, us, r, ⟨_, Heap.get?_push_size _ rfl, rfl, _, rfl⟩⟩
theorem pe_lst (h : PA X es t) : PE X (.List es pos) (tLst t) := by
  intro pins s σ H Q I hq
  refine wpAny_List_spliced (thn (h pos pins s σ H _ I hq) fun us s1 ⟨xs, H1, I1, r, z, q⟩ => ⟨by rw [← r.length]; exact z, ?_⟩)
  have hf : H1 s1.heap.objs.size = none := I1.hok.fresh (Nat.le_refl _)
  refine ⟨.ref s1.heap.objs.size, upd H1 s1.heap.objs.size (.lst xs), I1.laid (t' := s1.toks) (fun b u e => Heap.get?_push_of_some _ e) (Nat.le_refl _) ?_, rfl, q _ hf⟩
  exact ⟨z, us, 0, r, Heap.get?_push_size _ rfl⟩
end

/-! ### what a def promises -/
/-- a def's promise: the bound arguments in the parameters' order, the heap, the wanted end, the wanted exception -/
abbrev Sp := List V → Hp → VK → XK → Prop
/-- how an exception lies behind a call (file 08 gives it): the callers' frames, abstract heap and state ahead of the call, the wish, the exception, the state -/
abbrev CXT := List Env → Hp → Shared → XK → Value → Shared → Prop

/-- the state at a call -/
structure Env0 (P : Program) (w : World) (K : PySem.W.Frag) (mg : Str → Option Value) (base : Heap) (A : Around) (outer : List Env) (s : Shared) (H : Hp) : Prop where
  frames : A.frames = some outer
  mod : Mod K mg base
  bs : ∀ b o, base.get? b = some o → s.heap.get? b = some o ∧ H b = none
  bsz : base.objs.size ≤ s.heap.objs.size
  funs : s.heap.FunFrames base outer
  frf : ∀ b ∈ frs outer, H b = none
  hok : HOk P w H s.heap
  bare : AllBare s.gens
/-- a call's end -/
def CE (outer : List Env) (P : Program) (w : World) (H : Hp) (s : Shared) (Q : VK) (u : Value) (s' : Shared) : Prop :=
  ∃ v H', s'.os = s.os ∧ AllBare s'.gens ∧ Un (frs outer) [] H H' s.heap s'.heap ∧ HOk P w H' s'.heap ∧ RelV v u ∧ Q v H'
def CR (CX : CXT) (outer : List Env) (P : Program) (w : World) (H : Hp) (s : Shared) (Q : VK) (E : XK) (r : Result) (s' : Shared) : Prop :=
  match r with
  | .ok (.ret u) => CE outer P w H s Q u s'
  | .ok _ => False
  | .error e => CX outer H s E e s'
structure FnOk (P : Program) (w : World) (K : PySem.W.Frag) (mg : Str → Option Value) (base : Heap) (CX : CXT) (k : Nat) (f : Addr) (fd : FuncData) (ps : List Str) (sp : Sp) : Prop where
  len : ∀ vs H Q E, sp vs H Q E → vs.length = ps.length
  run : ∀ (A : Around) (outer : List Env) (s : Shared) (H : Hp) (args : Args) (us : List Value) (vs : List V) (Q : VK) (E : XK), Room k A → Env0 P w K mg base A outer s H → BindsTo s fd args (ps.zip us) → Vals vs us → sp vs H Q E →
    codeAny (model P w) A (.call (.ref f) args) (CR CX outer P w H s Q E) s

theorem Env0.make {P : Program} {w : World} {K : PySem.W.Frag} {mg : Str → Option Value} {base : Heap} {A : Around} {outer : List Env} {s : Shared} {H : Hp} (e : Env0 P w K mg base A outer s H) (C : Addr) (us : List Value) (kw : List (Str × Value)) :
    Env0 P w K mg base (A.under (.builtin "type.__call__" ⟨.ref C :: us, kw⟩)) outer s H := ⟨by first | exact e.frames | (simpa [Around.under, Code.envs, Code.isFrame, pushEnvs] using e.frames), e.mod, e.bs, e.bsz, e.funs, e.frf, e.hok, e.bare⟩

section
variable {X : Cx} {pins : List (Addr × Obj)} {σ : St} {H : Hp} {s s' : Shared}
/-- from a body: what a callee wants -/
theorem Inv.env0 (I : Inv X pins σ H s) : Env0 X.prog X.w X.K X.mg X.base X.A X.stack s H :=
  ⟨I.ok.frames, I.ok.mod, I.bs, Nat.le_trans I.ok.bsz I.sz, I.stack, I.stkFree, I.hok, I.bare⟩
/-- behind a call -/
theorem Inv.after {Q : VK} {u : Value} (I : Inv X pins σ H s) (h : CE X.stack X.prog X.w H s Q u s') : EP X pins σ Q u s' := by
  obtain ⟨v, H', os, bare, un, hok, r, q⟩ := h
  obtain ⟨hh, g, d, t, os'⟩ := s'
  obtain rfl : os' = s.os := os
  exact ⟨v, H', I.call (h' := hh) (g' := g) (d' := d) (t' := t) (ch := []) un hok bare (fun b z => absurd z (by simp)), r, q⟩
end

/-! ### calls -/
/-- f(..): the written arguments, then the defaults dvs; E: what is wanted of an exception -/
def tCall (sp : Sp) (dvs : List V) (E : XK) (t : TA) : TE := fun σ H Q => t σ H fun vs H1 => sp (vs ++ dvs) H1 Q E
/-- C(..): a new instance and its dict, then __init__ -/
def tMake (C : Addr) (sp : Sp) (dvs : List V) (E : XK) (t : TA) : TE := fun σ H Q => t σ H fun vs H1 => ∀ x dx, H1 x = none → H1 dx = none → dx ≠ x →
  sp (.ref x :: (vs ++ dvs)) (upd (upd H1 dx (.own x)) x (.ins C dx [])) (fun v H2 => v = .non ∧ Q (.ref x) H2) E

/-- how the parameters are bound: us the positional arguments, kw the keywords' values by name, ds the defaults that fill up -/
def Binds (K : PySem.W.Frag) (fd : FuncData) (ps : List Str) (ds : List Value) : Prop :=
  ∀ (s : Shared) (us : List Value), K.In s.heap → (us ++ ds).length = ps.length → BindsTo s fd ⟨us, []⟩ (ps.zip (us ++ ds))
/-- every parameter is given -/
theorem Binds.all {K : PySem.W.Frag} {fd : FuncData} {ps : List Str} (h : ∀ us : List Value, us.length = ps.length → bindArgs fd ⟨us, []⟩ = pure (ps.zip us)) : Binds K fd ps [] := fun s us _ hl => by
  rw [List.append_nil] at hl ⊢
  exact .of_eq (h us hl)

/-- an exception of a callee reaches what this body wants of exceptions -/
def Passes (CX : CXT) (X : Cx) (E : XK) : Prop := ∀ (pins : List (Addr × Obj)) (σ : St) (H : Hp) (s : Shared) (e : Value) (s' : Shared), Inv X pins σ H s → CX X.stack H s E e s' → X.xe e s'

section
variable {X : Cx} {CX : CXT} {k : Nat} {f C : Addr} {fd : FuncData} {ps : List Str} {sp : Sp} {dvs : List V} {ds : List Value} {E : XK} {x m : Str} {p pos apos : Pos} {e o : Expr} {es : List Expr} {ta : TE} {t : TA}

/-- the callee runs -/
theorem run_fn {pins : List (Addr × Obj)} {σ : St} {H : Hp} {s : Shared} {Q : VK} {us : List Value} {vs : List V} (F : FnOk X.prog X.w X.K X.mg X.base CX k f fd ps sp) (hr : Room k X.A) (hb : Binds X.K fd ps ds) (hd : Vals dvs ds) (hx : Passes CX X E)
    (I : Inv X pins σ H s) (r : Vals vs us) (h : sp (vs ++ dvs) H Q E) : wpAny (model X.prog X.w) X.A (call (.ref f) us) (EP X pins σ Q) X.xe s := by
  have r2 : Vals (vs ++ dvs) (us ++ ds) := r.append hd
  have hl : (us ++ ds).length = ps.length := by rw [← r2.length]; exact F.len _ _ _ _ h
  refine wpAny_call (codeAny_mono (F.run X.A X.stack s H ⟨us, []⟩ (us ++ ds) (vs ++ dvs) Q E hr I.env0 (hb s us I.kIn hl) r2 h) fun r s' hq => ?_)
  cases r with
  | error e => exact hx pins σ H s e s' I hq
  | ok fl =>
    cases fl with
    | ret u => exact I.after hq
    | next => exact False.elim hq
    | brk => exact False.elim hq
    | cont => exact False.elim hq

theorem pe_call (F : FnOk X.prog X.w X.K X.mg X.base CX k f fd ps sp) (hr : Room k X.A) (hg : Gl X x) (hm : X.mg x = some (.ref f)) (hk : PySem.W.keepIn X.K (.ref f) = true) (hb : Binds X.K fd ps ds) (hd : Vals dvs ds) (hx : Passes CX X E)
    (ha : PA X (e :: es) t) (hdb : (x == ("__debug__" : Str)) = false := by decide) (he : starEach (e :: es) X.env = (false, eval e X.env) :: starEach es X.env := by rfl) (hpl : (backTo pos (starEach es X.env)).any (·.1) = false := by rfl) :
    PE X (.Call (.Name x p) (e :: es) [] pos) (tCall sp dvs E t) := by
  intro pins s σ H Q I h
  refine wpAny_Call_Name_kw (ld_glob I hg hm ?_ hdb)
  refine PySem.W.callWith_K (h₀ := X.base) I.ok.mod.kin hk (thn (ha pos pins s σ H _ I h) fun us s1 ⟨vs, H1, I1, r, q⟩ => ⟨I1.kIn, ?_⟩) he hpl
  exact run_fn F hr hb hd hx I1 r q


/-- what a class must have to be made -/
structure Mk (K : PySem.W.Frag) (C f : Addr) : Prop where
  makes : PySem.W.makesIn K C = true
  init : PySem.W.findIn K (.ref C) "__init__" = some (some (.ref f))
  fn : PySem.W.isFn K (.ref f) = true
  kp : PySem.W.keepIn K (.ref C) = true

theorem run_make {pins : List (Addr × Obj)} {σ : St} {H : Hp} {s : Shared} {Q : VK} {us : List Value} {vs : List V} (M : Mk X.K C f) (F : FnOk X.prog X.w X.K X.mg X.base CX k f fd ps sp) (hr : Room (k + 1) X.A) (hb : Binds X.K fd ps ds) (hd : Vals dvs ds)
    (hx : Passes CX X E) (I : Inv X pins σ H s) (r : Vals vs us)
    (h : ∀ x dx, H x = none → H dx = none → dx ≠ x → sp (.ref x :: (vs ++ dvs)) (upd (upd H dx (.own x)) x (.ins C dx [])) (fun v H2 => v = .non ∧ Q (.ref x) H2) E) :
    wpAny (model X.prog X.w) X.A (call (.ref C) us) (EP X pins σ Q) X.xe s := by
  have hq := h (s.heap.objs.size + 1) s.heap.objs.size (I.hok.fresh (Nat.le_succ _)) (I.hok.fresh (Nat.le_refl _)) (Nat.ne_of_lt (Nat.lt_succ_self _))
  have I2 := Inv.made (C := C) I
  have r2 : Vals (V.ref (s.heap.objs.size + 1) :: (vs ++ dvs)) (Value.ref (s.heap.objs.size + 1) :: (us ++ ds)) := .cons rfl (r.append hd)
  have hl : (Value.ref (s.heap.objs.size + 1) :: us ++ ds).length = ps.length := by
    have e := r2.length
    rw [F.len _ _ _ _ hq] at e
    exact e.symm
  refine wpAny_call (make_map (f := f) I.kIn M.makes M.init (beq_iff_eq.mp M.fn) (codeAny_mono (F.run _ X.stack _ _ ⟨Value.ref (s.heap.objs.size + 1) :: us, []⟩ (Value.ref (s.heap.objs.size + 1) :: (us ++ ds)) _ _ E (hr.make C us [])
    (I2.env0.make C us []) (hb _ (Value.ref (s.heap.objs.size + 1) :: us) I2.kIn hl) r2 hq) fun r s' hq' => ?_))
  cases r with
  | error e => exact hx pins σ _ _ e s' I2 hq'
  | ok fl =>
    cases fl with
    | ret u =>
      obtain ⟨v, H', I3, rv, ev, q3⟩ := I2.after hq'
      subst ev
      exact ⟨rv, ⟨V.ref (s.heap.objs.size + 1), H', I3, rfl, q3⟩⟩
    | next => exact False.elim hq'
    | brk => exact False.elim hq'
    | cont => exact False.elim hq'
theorem pe_make (M : Mk X.K C f) (F : FnOk X.prog X.w X.K X.mg X.base CX k f fd ps sp) (hr : Room (k + 1) X.A) (hg : Gl X x) (hm : X.mg x = some (.ref C)) (hb : Binds X.K fd ps ds) (hd : Vals dvs ds) (hx : Passes CX X E)
    (ha : PA X (e :: es) t) (hdb : (x == ("__debug__" : Str)) = false := by decide) (he : starEach (e :: es) X.env = (false, eval e X.env) :: starEach es X.env := by rfl) (hpl : (backTo pos (starEach es X.env)).any (·.1) = false := by rfl) :
    PE X (.Call (.Name x p) (e :: es) [] pos) (tMake C sp dvs E t) := by
  intro pins s σ H Q I h
  refine wpAny_Call_Name_kw (ld_glob I hg hm ?_ hdb)
  refine PySem.W.callWith_K (h₀ := X.base) I.ok.mod.kin M.kp (thn (ha pos pins s σ H _ I h) fun us s1 ⟨vs, H1, I1, r, q⟩ => ⟨I1.kIn, ?_⟩) he hpl
  exact run_make M F hr hb hd hx I1 r q
end

/-! ### keywords -/
section
variable {X : Cx} {CX : CXT} {k : Nat} {f C : Addr} {fd : FuncData} {ps ks : List Str} {sp : Sp} {E : XK} {x m : Str} {p pos apos kpos : Pos} {e o : Expr} {es : List Expr} {kws : List Keyword} {te ta : TE} {t tk : TA} {nm : Option Str}

/-- how a call with keywords binds: g puts the positional values us and the keywords' values ws (names ks) in the parameters' order, defaults among them -/
structure KBinds (K : PySem.W.Frag) (fd : FuncData) (ps ks : List Str) (g : List Value → List Value → List Value) (gV : List V → List V → List V) : Prop where
  to : ∀ (s : Shared) (us ws : List Value), K.In s.heap → (g us ws).length = ps.length → BindsTo s fd ⟨us, ks.zip ws⟩ (ps.zip (g us ws))
  rel : ∀ {vs : List V} {us : List Value} {zs : List V} {ws : List Value}, Vals vs us → Vals zs ws → Vals (gV vs zs) (g us ws)
variable {g : List Value → List Value → List Value} {gV : List V → List V → List V}
end

/-! ### a def's body keeps its promise -/
/-- names: the parameters first -/
structure FnScope (N P : List Str) (sc : Scope) : Prop where
  kind : sc.kind = .function
  co : sc.isCoroutine = false
  gen : sc.isGenerator = false
  nd : N.Nodup
  pre : N.take P.length = P
  par : ∀ x ∈ P, sc.names.lookup x = some .local ∨ sc.names.lookup x = some .cell
  nofree : ∀ y ∈ sc.names, y.2 ≠ .free

theorem bindL_out {kindOf : Str → Option NameKind} {x : Str} : ∀ {binds : List (Str × Value)} {m : Str → Option Value}, (∀ v, (x, v) ∉ binds) → bindL kindOf binds m x = m x
  | [], _, _ => rfl
  | (n, v) :: r, m, h => by
    unfold bindL
    rw [bindL_out fun w hw => h w (List.mem_cons_of_mem _ hw)]
    split
    · have : x ≠ n := by rintro rfl; exact h v List.mem_cons_self
      simp [this]
    · rfl
theorem bindC_out {kindOf : Str → Option NameKind} {x : Str} : ∀ {binds : List (Str × Value)} {m : Str → Option Value}, (∀ v, (x, v) ∉ binds) → bindC kindOf binds m x = m x
  | [], _, _ => rfl
  | (n, v) :: r, m, h => by
    unfold bindC
    rw [bindC_out fun w hw => h w (List.mem_cons_of_mem _ hw)]
    split
    · rfl
    · have : x ≠ n := by rintro rfl; exact h v List.mem_cons_self
      simp [this]
theorem bindL_get {kindOf : Str → Option NameKind} {x : Str} {v : Value} : ∀ {P : List Str} {vs : List Value} {i : Nat} {m : Str → Option Value}, P.Nodup → P[i]? = some x → vs[i]? = some v → kindOf x = some .local →
    bindL kindOf (P.zip vs) m x = some v
  | [], _, _, _, _, h, _, _ => by simp at h
  | _ :: _, [], _, _, _, _, h, _ => by simp at h
  | p :: P, w :: vs, 0, m, nd, h1, h2, hk => by
    simp at h1 h2; subst h1; subst h2
    show bindL kindOf ((p, w) :: P.zip vs) m p = _
    unfold bindL
    rw [bindL_out fun v hv => (List.nodup_cons.mp nd).1 (List.of_mem_zip hv).1, if_pos hk]
    simp
  | p :: P, w :: vs, i + 1, m, nd, h1, h2, hk => by
    show bindL kindOf ((p, w) :: P.zip vs) m x = _
    unfold bindL
    exact bindL_get (i := i) (List.nodup_cons.mp nd).2 (by simpa using h1) (by simpa using h2) hk
theorem bindC_get {kindOf : Str → Option NameKind} {x : Str} {v : Value} : ∀ {P : List Str} {vs : List Value} {i : Nat} {m : Str → Option Value}, P.Nodup → P[i]? = some x → vs[i]? = some v → kindOf x ≠ some .local →
    bindC kindOf (P.zip vs) m x = some v
  | [], _, _, _, _, h, _, _ => by simp at h
  | _ :: _, [], _, _, _, _, h, _ => by simp at h
  | p :: P, w :: vs, 0, m, nd, h1, h2, hk => by
    simp at h1 h2; subst h1; subst h2
    show bindC kindOf ((p, w) :: P.zip vs) m p = _
    unfold bindC
    rw [bindC_out fun v hv => (List.nodup_cons.mp nd).1 (List.of_mem_zip hv).1, if_neg hk]
    simp
  | p :: P, w :: vs, i + 1, m, nd, h1, h2, hk => by
    show bindC kindOf ((p, w) :: P.zip vs) m x = _
    unfold bindC
    exact bindC_get (i := i) (List.nodup_cons.mp nd).2 (by simpa using h1) (by simpa using h2) hk

/-- the names' values at the entry -/
def start (N : List Str) (vs : List V) : St := vs.map some ++ List.replicate (N.length - vs.length) none

/-- the context of a def's body, at its entry; an exception leaves the frame, then lies as CX says -/
def cxOf (CX : CXT) (P : Program) (w : World) (K : PySem.W.Frag) (mg : Str → Option Value) (base : Heap) (N : List Str) (qual : Str) (scope : Scope) (f : Addr) (cd : Value) (A : Around) (outer : List Env) (s : Shared) (H : Hp) (E : XK) : Cx where
  prog := P
  w := w
  K := K
  mg := mg
  base := base
  A := A.deeper (envOfC qual scope s.heap.objs.size f cd)
  N := N
  s₀ := s
  H₀ := H
  env := envOfC qual scope s.heap.objs.size f cd
  outer := outer
  stack := envOfC qual scope s.heap.objs.size f cd :: outer
  ex := []
  calm := true
  fn := fun _ => true
  pn := []
  xe := fun e s' => wpAny (model P w) (A.deeper (envOfC qual scope s.heap.objs.size f cd)) (leaving (envOfC qual scope s.heap.objs.size f cd) e) (fun _ s'' => CX outer H s E e s'') (fun e' s'' => CX outer H s E e' s'') s'

theorem cell_has {sc : Scope} {n : Nat} {x : Str} (h : sc.names.lookup x = some .cell) : ∃ c, (cellsFrom n sc.names []).lookup x = some c := by
  have q := PySem.W.cellsFrom_some sc.names n [] (.inl h)
  exact Option.isSome_iff_exists.mp q

theorem inv_start {CX : CXT} {P : Program} {w : World} {K : PySem.W.Frag} {mg : Str → Option Value} {base : Heap} {N ps : List Str} {qual : Str} {scope : Scope} {f : Addr} {cd : Value} {A : Around} {outer : List Env} {s s1 : Shared} {H : Hp} {E : XK} {us : List Value} {vs : List V}
    (S : FnScope N ps scope) (hd : A.handled = none) (e0 : Env0 P w K mg base A outer s H) (hl : vs.length = ps.length) (r : Vals vs us)
    (x : InCallC s s.heap.objs.size (bindL (envOfC qual scope s.heap.objs.size f cd).kindOf (ps.zip us) fun _ => none) (cellsFrom (s.heap.objs.size + 1) scope.names []) (bindC (envOfC qual scope s.heap.objs.size f cd).kindOf (ps.zip us) fun _ => none) s1) :
    Inv (cxOf CX P w K mg base N qual scope f cd A outer s H E) [] (start N vs) H s1 := by
  have hpl : ps.length ≤ N.length := by have := congrArg List.length S.pre; rw [List.length_take] at this; omega
  obtain ⟨h1, tk, rfl, hk⟩ := x.done
  have noA : ∀ b : Addr, b ∉ (cxOf CX P w K mg base N qual scope f cd A outer s H E).ex := fun b z => absurd (show b ∈ ([] : List Addr) from z) (by simp)
  refine ⟨⟨e0.mod, S.kind, rfl, rfl, Nat.le_refl _, fun y z c h1 h2 => ?_, fun y hy => ?_, fun y c _ h => ?_, fun _ => hd, Around.frames_deeper e0.frames, .inr ⟨rfl, rfl⟩, fun b z => absurd z (noA b), e0.bs, e0.bsz, fun b _ _ => noA b, fun b z => absurd z (noA b), e0.funs, e0.frf⟩,
    rfl, e0.bare, Un.kept hk, ⟨_, x.toInCall.ns, fun i y v h1 h2 h3 => ?_⟩, fun y c h => ⟨_, x.cell y c h⟩, e0.hok.fresh (Nat.le_refl _), fun y c h => ?_, fun p hp => absurd (show p ∈ ([] : List (Addr × Obj)) from hp) (by simp), e0.hok.kept hk, ?_⟩
  · exact name_of_addr x.apart (PySem.mem_of_lookup h1) (PySem.mem_of_lookup h2)
  · have hy : scope.names.lookup y = some .cell ∨ scope.names.lookup y = some .free := hy
    rcases hy with hy | hy
    · exact cell_has hy
    · exact absurd rfl (S.nofree _ (PySem.mem_of_lookup hy))
  · exact Nat.le_of_lt (x.above y c (PySem.mem_of_lookup h))
  · have hi : i < vs.length := by
      unfold start at h2
      by_cases hi : i < vs.length
      · exact hi
      · rw [List.getElem?_append_right (by simpa using hi)] at h2
        rw [List.getElem?_replicate] at h2
        split at h2 <;> cases h2
    have ha : vs[i]? = some v := by
      unfold start at h2
      rw [List.getElem?_append_left (by simpa using hi), List.getElem?_map] at h2
      cases e : vs[i]? with
      | none => rw [e] at h2; cases h2
      | some a => rw [e] at h2; cases h2; rfl
    obtain ⟨u, hu, rv⟩ := r.get ha
    have hp : ps[i]? = some y := by
      rw [← S.pre, List.getElem?_take_of_lt (by omega)]; exact h1
    have ndP : ps.Nodup := by rw [← S.pre]; exact S.nd.sublist (List.take_sublist _ _)
    refine ⟨u, rv, ?_⟩
    rcases S.par y (List.mem_of_getElem? hp) with k | k
    · exact .inl ⟨k, bindL_get ndP hp hu k⟩
    · obtain ⟨c, e⟩ := cell_has (n := s.heap.objs.size + 1) k
      refine .inr ⟨.inl k, c, e, ?_⟩
      have q := x.cell y c e
      rw [bindC_get ndP hp hu (by show scope.names.lookup y ≠ _; rw [k]; decide)] at q
      exact q
  · exact e0.hok.fresh (Nat.le_of_lt (x.above y c (PySem.mem_of_lookup h)))
  · unfold start
    show _ = N.length
    rw [List.length_append, List.length_map, List.length_replicate]
    omega

/-- THE RULE: a def (or a method) of the text, by its body. The body's reading t is chosen for each entry; it is run at the parameters' values -/
theorem fn_of {CX : CXT} {P : Program} {w : World} {K : PySem.W.Frag} {mg : Str → Option Value} {base : Heap} {k : Nat} {f : Addr} {name qual : Str} {params : Arguments} {body : List Stmt} {scope : Scope} {dV kV doc pm cdv ct oc : Value} {an od : Option Addr}
    {osl : Array (Option Value)} {N ps : List Str} {sp : Sp} (lk : K.lookup f = some ⟨oc, od, .func (PySem.W.fnOf name qual params body scope dV kV doc pm an cdv ct), osl⟩) (hcd : PySem.W.codeIn K cdv qual = true) (S : FnScope N ps scope)
    (len : ∀ vs H Q E, sp vs H Q E → vs.length = ps.length)
    (hbody : ∀ (A : Around) (outer : List Env) (s : Shared) (H : Hp) (vs : List V) (Q : VK) (E : XK), Room k (A.deeper (envOfC qual scope s.heap.objs.size f cdv)) → sp vs H Q E →
      ∃ t, PSs (cxOf CX P w K mg base N qual scope f cdv A outer s H E) body t ∧ t { nx := fun _ H' => Q .non H', rt := Q } (start N vs) H) :
    FnOk P w K mg base CX (k + 1) f (PySem.W.fnOf name qual params body scope dV kV doc pm an cdv ct) ps sp := by
  refine ⟨len, fun A outer s H args us vs Q E hr e0 hb r hsp => ?_⟩
  have hl := len _ _ _ _ hsp
  have KX : K.In s.heap := e0.mod.kin.keeps fun b o e => (e0.bs b o e).1
  have lim : s.heap.NoLimit := e0.mod.nolimit.keeps fun b o e => (e0.bs b o e).1
  have hkind : ∀ y ∈ ps.zip us, scope.names.lookup y.1 = some .local ∨ (scope.names.lookup y.1 = some .cell ∧ ((cellsFrom (s.heap.objs.size + 1) scope.names []).lookup y.1).isSome = true) := fun ⟨n, v⟩ hy => by
    rcases S.par n (List.of_mem_zip hy).1 with q | q
    · exact .inl q
    · exact .inr ⟨q, PySem.W.cellsFrom_some _ _ _ (.inl q)⟩
  refine codeAny_call_function hr.depth (KX _ _ lk) rfl S.co S.gen rfl (PySem.W.codeRec_of KX hcd) (hb _ _ _ _ ?_)
  refine wpAny_newFunctionEnv_cells S.kind hkind fun env he s1 x => ?_
  subst he
  refine ⟨lim.keeps x.toInCall.keep, codeAny_func ?_⟩
  obtain ⟨t, ht, hq⟩ := hbody A outer s H vs Q E (hr.deeper _) hsp
  have I : Inv (cxOf CX P w K mg base N qual scope f cdv A outer s H E) [] (start N vs) H s1 := inv_start S hr.hd e0 hl r x
  refine wpAny_mono (ht [] s1 (start N vs) H _ I hq) (fun fl s' hs => ?_) fun e s' hs => hs
  have fin : ∀ {σ' : St} {H' : Hp} {v : V} {u : Value}, Inv (cxOf CX P w K mg base N qual scope f cdv A outer s H E) [] σ' H' s' → RelV v u → Q v H' → CE outer P w H s Q u s' :=
    fun {σ' H' v u} J rv q => ⟨v, H', J.os, J.bare, J.base, J.hok, rv, q⟩
  cases fl with
  | ret u =>
    obtain ⟨v, σ', H', J, rv, q⟩ := hs
    exact fin J rv q
  | next =>
    obtain ⟨σ', H', J, q⟩ := hs
    exact fin (v := V.non) (u := Value.none) J rfl q
  | brk =>
    obtain ⟨_, _, _, q⟩ := hs
    exact False.elim q
  | cont =>
    obtain ⟨_, _, _, q⟩ := hs
    exact False.elim q
end L2

namespace L2
open PySem PySem.Spec PyProof.Rows
section
variable {X : Cx} {x : Str} {p pos : Pos} {e : Expr} {es : List Expr} {t : TA} {id T : String} {r : List V → Hp → VK → Prop}

def tCB (r : List V → Hp → VK → Prop) (t : TA) : TE := fun σ H Q => t σ H fun vs H1 => r vs H1 Q
/-- f(e, ..), f a built-in function -/
theorem pe_callB (hc : CallR X (.builtin id) r) (hg : Gl X x) (hm : X.mg x = none) (hv : bootBuiltins x = some (.builtin id)) (ha : PA X (e :: es) t) (hn : x ≠ "__name__" := by decide) (hdb : (x == ("__debug__" : Str)) = false := by decide)
    (he : starEach (e :: es) X.env = (false, eval e X.env) :: starEach es X.env := by rfl) (hpl : (backTo pos (starEach es X.env)).any (·.1) = false := by rfl) : PE X (.Call (.Name x p) (e :: es) [] pos) (tCB r t) := by
  intro pins s σ H Q I h
  refine wpAny_Call_Name_kw (ld_blt I hg hm hv ?_ hn hdb)
  exact PyProof.Rows.callWith_builtin1 (thn (ha pos pins s σ H _ I h) fun us s1 ⟨vs, H1, I1, r1, q1⟩ => hc pins s1 σ H1 vs us Q I1 r1 q1) he hpl
/-- T(e, ..), T a built-in type -/
theorem pe_callTy (hc : CallR X (.type T) r) (hg : Gl X x) (hm : X.mg x = none) (hv : bootBuiltins x = some (.type T)) (ha : PA X (e :: es) t) (hn : x ≠ "__name__" := by decide) (hdb : (x == ("__debug__" : Str)) = false := by decide)
    (he : starEach (e :: es) X.env = (false, eval e X.env) :: starEach es X.env := by rfl) (hpl : (backTo pos (starEach es X.env)).any (·.1) = false := by rfl) : PE X (.Call (.Name x p) (e :: es) [] pos) (tCB r t) := by
  intro pins s σ H Q I h
  refine wpAny_Call_Name_kw (ld_blt I hg hm hv ?_ hn hdb)
  exact PyProof.Rows.callWith_type1 (thn (ha pos pins s σ H _ I h) fun us s1 ⟨vs, H1, I1, r1, q1⟩ => hc pins s1 σ H1 vs us Q I1 r1 q1) he hpl
end
end L2

namespace HT
open PySem PyProof.Rows



section
open PySem.SeqAt
open PySem.AutoSeq1 (wpAny_loadPart')
open PySem.MeetsSeq PySem.MeetsSeq2 PySem.MeetsSeq3

end

section
variable {prog : Program} {w : World} {A : Around} {E : Value → Shared → Prop} {s : Shared}


/-- t + u, t not empty -/
theorem cat_tup {t b : Addr} {vs ws : List Value} {Q : Value → Shared → Prop} (ht : IsTup s.heap t vs.toArray) (hb : IsTup s.heap b ws.toArray) (hv : vs ≠ [])
    (h1 : ws = [] → Q (.ref t) s) (h2 : ws ≠ [] → Q (.ref s.heap.objs.size) { s with heap := s.heap.push { cls := .type "tuple", data := .seq (vs ++ ws).toArray } })
    (hsz : vs.length + ws.length ≤ sizeLine) : wpAny (model prog w) A (binaryOp .Add (.ref t) (.ref b)) Q E s := by
  obtain ⟨⟨cls, dd, data, sl⟩, ho, hc, n, hd⟩ := id ht
  obtain ⟨⟨cls2, dd2, data2, sl2⟩, ho2, hc2, n2, hd2⟩ := id hb
  simp only at hc hd hc2 hd2
  subst hc hd hc2 hd2
  have e : vs.toArray ++ ws.toArray = (vs ++ ws).toArray := by simp
  by_cases hw : ws = []
  · exact concat_meets ⟨_, ho, rfl⟩ ⟨_, ho2, rfl⟩ noFill_tuple_add seq_tuple_add PySem.F.slot_tuple_add PySem.F.entry_tuple_add (PySem.F.args_tuple_add_2 _ _)
      (tuple_addW1 t b vs.toArray ws.toArray n n2 dd dd2 sl sl2 (by simpa using hv) (by simp [hw])) ⟨ho, ho2, h1 hw⟩
  · refine concat_meets ⟨_, ho, rfl⟩ ⟨_, ho2, rfl⟩ noFill_tuple_add seq_tuple_add PySem.F.slot_tuple_add PySem.F.entry_tuple_add (PySem.F.args_tuple_add_2 _ _)
      (tuple_addW2 t b vs.toArray ws.toArray n n2 dd dd2 sl sl2 (by simpa using hv) (by simpa using hw) (by rw [List.size_toArray, List.size_toArray]; exact hsz)) ⟨ho, ho2, ?_⟩
    rw [e]
    exact h2 hw

/-! ### t[a:b], not the whole -/
/-- a slice's bound as a place among n (d where it is left out) -/
def sIx (n d : Nat) : Option Int → Nat
  | none => d
  | some v => if v < 0 then (v + (n : Int)).toNat else min v.toNat n
theorem sIx_none (n d : Nat) : sIx n d none = d := rfl
theorem sIx_nat (n d k : Nat) : sIx n d (some (k : Int)) = min k n := by
  show (if (k : Int) < 0 then ((k : Int) + (n : Int)).toNat else min (k : Int).toNat n) = min k n
  rw [if_neg (by omega), Int.toNat_natCast]
theorem sIx_le (n d : Nat) (hd : d ≤ n) (o : Option Int) : sIx n d o ≤ n := by
  cases o with
  | none => exact hd
  | some v =>
    show (if v < 0 then (v + (n : Int)).toNat else min v.toNat n) ≤ n
    by_cases hv : v < 0
    · rw [if_pos hv]; omega
    · rw [if_neg hv]; exact Nat.min_le_right _ _
theorem clip_eq (v : Int) (n d : Nat) : (if v < 0 then max (v + (n : Int)) 0 else min v (n : Int)) = ((sIx n d (some v) : Nat) : Int) := by
  show (if v < 0 then max (v + (n : Int)) 0 else min v (n : Int)) = (((if v < 0 then (v + (n : Int)).toNat else min v.toNat n) : Nat) : Int)
  by_cases hv : v < 0
  · simp only [if_pos hv]; omega
  · simp only [if_neg hv]; omega
theorem adjust_gen (lo hi : Option Int) (n : Nat) : Builtin.Slice.sliceAdjust lo hi 1 (n : Int) = (((sIx n 0 lo : Nat) : Int), ((sIx n n hi : Nat) : Int)) := by
  have h1 : ¬ ((1 : Int) < 0) := by omega
  unfold Builtin.Slice.sliceAdjust
  simp only [h1, if_false]
  refine Prod.ext ?_ ?_
  · cases lo with
    | none => rfl
    | some v => exact clip_eq v n 0
  · cases hi with
    | none => rfl
    | some v => exact clip_eq v n n
theorem places_gen (i j : Nat) : Builtin.Slice.slicePlaces (i : Int) (j : Int) 1 = j - i := by
  unfold Builtin.Slice.slicePlaces
  have h1 : (1 : Int) > 0 := by omega
  simp only [h1, if_true, Int.ediv_one]
  split <;> omega
theorem slicePart_ {v : Value} {o : Option Int} {Q : Option Int → Shared → Prop} (p : IsPart v o) (h : Q o s) : wpAny (model prog w) A (Builtin.Slice.slicePartIndex v) Q E s := by
  cases p with
  | none => exact slicePart_none h
  | int i t => exact slicePart_int h
theorem sliceApplied_gen {sl : Addr} {vl vu : Value} {lo hi : Option Int} {n : Nat} {Q : Int × Int × Nat → Shared → Prop} (hs : s.heap.IsSliceOf sl vl vu .none) (pl : IsPart vl lo) (pu : IsPart vu hi)
    (h : Q (((sIx n 0 lo : Nat) : Int), 1, sIx n n hi - sIx n 0 lo) s) : wpAny (model prog w) A (Builtin.Slice.sliceApplied (.ref sl) (pure (n : Int))) Q E s := by
  obtain ⟨os, hos, hcs, hds⟩ := id hs
  unfold Builtin.Slice.sliceApplied Builtin.Slice.sliceFields
  refine wpAny_bind (wpAny_bind (wpAny_field hos hds (x := vl) rfl (wpAny_bind (wpAny_field hos hds (x := vu) rfl (wpAny_bind (wpAny_field hos hds (x := .none) rfl (wpAny_pure ?_)))))))
  refine wpAny_bind (slicePart_none ?_)
  show wpAny _ _ (if ((1 : Int) == 0) = true then _ else _) _ _ s
  rw [if_neg (by decide)]
  refine wpAny_bind (slicePart_ pl (wpAny_bind (slicePart_ pu (wpAny_bind (wpAny_pure ?_)))))
  show wpAny _ _ (match Builtin.Slice.sliceAdjust lo hi 1 (n : Int) with | (lo, hi) => pure (lo, (1 : Int), Builtin.Slice.slicePlaces lo hi 1)) _ _ s
  rw [adjust_gen lo hi n]
  show wpAny _ _ (pure (((sIx n 0 lo : Nat) : Int), (1 : Int), Builtin.Slice.slicePlaces ((sIx n 0 lo : Nat) : Int) ((sIx n n hi : Nat) : Int) 1)) _ _ s
  rw [places_gen]
  exact wpAny_pure h
theorem pick_gen (xs : Array Value) (i k : Nat) : ((List.range k).filterMap fun (m : Nat) => xs[((i : Int) + (m : Int) * 1).toNat]?).toArray = ((xs.toList.drop i).take k).toArray := by
  have e : (fun (m : Nat) => xs[((i : Int) + (m : Int) * 1).toNat]?) = fun m => xs[i + m]? := by
    funext m
    have : ((i : Int) + (m : Int) * 1).toNat = i + m := by omega
    rw [this]
  rw [e]
  have := pick_run xs i k
  rw [List.filterMap_map] at this
  have e2 : ((fun x => xs[x]?) ∘ fun x => i + x) = fun m => xs[i + m]? := rfl
  rw [e2] at this
  rw [this]

theorem getItem_tuple_cut {t sl : Addr} {items : Array Value} {vl vu : Value} {lo hi : Option Int} {Q : Value → Shared → Prop} (ht : IsTup s.heap t items) (hs : s.heap.IsSliceOf sl vl vu .none) (pl : IsPart vl lo) (pu : IsPart vu hi)
    (hw : ¬ (sIx items.size 0 lo = 0 ∧ sIx items.size items.size hi = items.size))
    (h : Q (.ref s.heap.objs.size) { s with heap := s.heap.push { cls := .type "tuple", data := .seq ((items.toList.drop (sIx items.size 0 lo)).take (sIx items.size items.size hi - sIx items.size 0 lo)).toArray } })
    (hsz : items.size ≤ sizeLine) : wpAny (model prog w) A (getItem (.ref t) (.ref sl)) Q E s := by
  have htake : sizeOk (.seq ((items.toList.drop (sIx items.size 0 lo)).take (sIx items.size items.size hi - sIx items.size 0 lo)).toArray) := by
    show ((items.toList.drop (sIx items.size 0 lo)).take (sIx items.size items.size hi - sIx items.size 0 lo)).toArray.size ≤ sizeLine
    rw [List.size_toArray, List.length_take, List.length_drop, Array.length_toList]
    omega
  have hj : sIx items.size items.size hi ≤ items.size := sIx_le _ _ (Nat.le_refl _) hi
  obtain ⟨os, hos, hcs, hds⟩ := id hs
  have hTs : s.TypeIs (.ref sl) "slice" := ⟨os, hos, hcs⟩
  unfold getItem
  try with_reducible refine wpAny_holding ?_
  first | refine wpAny_bind (wpAny_pure ?_) | skip
  refine wpAny_bind (wpAny_sequenceKey ht.typeIs (by decide) ?_)
  refine wpAny_bind (wpAny_callSpecial?_slot (name := Str.ofString "__getitem__") ht.typeIs PyProof.Rows.slot_tuple_getitem
    (wpAny_call_entry PyProof.Rows.slot_tuple_getitem ht.typeIs entry_tuple_getitem ?_ (args_tuple_getitem _ _)))
  show wpAny _ _ (Builtin.Tuple.tupleItemsOf (.ref t) >>= _) _ _ s
  refine wpAny_bind (tupleItemsOf_ ht ?_)
  refine wpAny_bind (wpAny_typeOf hTs ?_)
  rw [if_pos (by decide)]
  refine wpAny_bind (sliceApplied_gen hs pl pu ?_)
  have hno : ¬ ((((sIx items.size 0 lo : Nat) : Int) == 0 && (1 : Int) == 1 && (sIx items.size items.size hi - sIx items.size 0 lo) == items.size) = true) := by
    intro q
    rw [Bool.and_eq_true, Bool.and_eq_true] at q
    have q1 : ((sIx items.size 0 lo : Nat) : Int) = 0 := eq_of_beq q.1.1
    have q2 : sIx items.size items.size hi - sIx items.size 0 lo = items.size := eq_of_beq q.2
    exact hw ⟨by omega, by omega⟩
  show wpAny _ _ (if (((sIx items.size 0 lo : Nat) : Int) == 0 && (1 : Int) == 1 && (sIx items.size items.size hi - sIx items.size 0 lo) == items.size) = true then _ else _) _ _ s
  rw [if_neg hno, pick_gen]
  first
    | exact wpAny_bind (m := Builtin.Tuple.tupleExact _) (wpAny_newObj_type (wpAny_pure ⟨_, rfl, wpAny_pure h⟩) htake)
    | exact wpAny_bind (m := Builtin.Tuple.tupleExact _) (wpAny_newObj_type (wpAny_bind (wpAny_pure (wpAny_pure ⟨_, rfl, wpAny_pure h⟩))) htake)
    | exact wpAny_bind (wpAny_bind (m := Builtin.Tuple.tupleExact _) (wpAny_newObj_type (wpAny_pure (wpAny_pure ⟨_, rfl, wpAny_pure h⟩)) htake))
    | exact wpAny_bind (wpAny_bind (m := Builtin.Tuple.tupleExact _) (wpAny_newObj_type (wpAny_pure ⟨_, rfl, wpAny_pure h⟩) htake))
end
end HT

namespace L2
open PySem PySem.Spec PyProof.Rows

/-! ### the parts of a slice -/
abbrev TO := St → Hp → (Option Int → Hp → Prop) → Prop
/-- a slice's part (left out, or an int) -/
def PO (X : Cx) (e : Option Expr) (t : TO) : Prop :=
  ∀ (pins : List (Addr × Obj)) (s : Shared) (σ : St) (H : Hp) (Q : Option Int → Hp → Prop), Inv X pins σ H s → t σ H Q →
    wpAny (model X.prog X.w) X.A (evalPart e X.env) (fun u s' => ∃ o H', Inv X pins σ H' s' ∧ IsPart u o ∧ Q o H') X.xe s
def tNoPart : TO := fun _ H Q => Q none H
def tPart (t : TE) : TO := fun σ H Q => t σ H fun x H1 => ∃ i, x = .int i ∧ Q (some i) H1

theorem intsAre_of {ns : List Int} : ∀ {us : List Value}, Vals (ns.map V.int) us → IntsAre us ns := by
  induction ns with
  | nil => intro us r; rw [List.map_nil] at r; cases r; exact .nil
  | cons n ns ih =>
    intro us r
    rw [List.map_cons] at r
    cases r with
    | cons r1 r2 =>
      obtain ⟨t, e⟩ := r1
      subst e
      exact .cons n t (ih r2)

section
variable {X : Cx} {e : Expr} {te : TE} {lo hi : Option Expr} {tl th : TO} {pos p2 : Pos}

theorem po_none : PO X none tNoPart := by
  intro pins s σ H Q I h
  rw [evalPart_none]
  exact wpAny_pure ⟨none, H, I, .none, h⟩
theorem po_some (h : PE X e te) : PO X (some e) (tPart te) := by
  intro pins s σ H Q I hw
  rw [evalPart_some]
  refine thn (h pins s σ H _ I hw) fun u s1 ⟨x, H1, I1, r1, q1⟩ => ?_
  obtain ⟨i, rfl, q⟩ := q1
  obtain ⟨t, rfl⟩ := r1
  exact ⟨some i, H1, I1, .int i t, q⟩

/-- what a slice of a value is, by values: the slice object stands at sl -/
def SlR (X : Cx) (r : V → Option Int → Option Int → Hp → VK → Prop) : Prop :=
  ∀ (pins : List (Addr × Obj)) (s : Shared) (σ : St) (H : Hp) (x : V) (v vl vu : Value) (lo hi : Option Int) (sl : Addr) (Q : VK), Inv X pins σ H s → RelV x v → s.heap.IsSliceOf sl vl vu .none → IsPart vl lo → IsPart vu hi → r x lo hi H Q →
    ∃ T id, typeLookup (.type T) "__getitem__" = pure (some (.builtin id)) ∧ s.TypeIs v T ∧ wpAny (model X.prog X.w) X.A (getItem v (.ref sl)) (EP X pins σ Q) X.xe s
def tSl (r : V → Option Int → Option Int → Hp → VK → Prop) (te : TE) (tl th : TO) : TE := fun σ H Q => te σ H fun x H1 => tl σ H1 fun l H2 => th σ H2 fun u H3 => r x l u H3 Q
/-- a[lo:hi], any a -/
theorem pe_slice {r : V → Option Int → Option Int → Hp → VK → Prop} (hr : SlR X r) (he : PE X e te) (hl : PO X lo tl) (hu : PO X hi th) : PE X (.Subscript e (.Slice lo hi none p2) pos) (tSl r te tl th) := by
  intro pins s σ H Q I h
  refine Subscript_ (thn (he pins s σ H _ I h) fun v s1 ⟨x, H1, I1, r1, q1⟩ => ?_)
  refine wpAny_Slice (thn (hl pins s1 σ H1 _ I1 q1) fun vl s2 ⟨l, H2, I2, pl, q2⟩ => thn (hu pins s2 σ H2 _ I2 q2) fun vu s3 ⟨u, H3, I3, pu, q3⟩ => ?_)
  rw [evalPart_none]
  refine wpAny_pure ?_
  have I4 : Inv X pins σ H3 { s3 with heap := s3.heap.push { cls := .type "slice", data := .fields #[vl, vu, .none] } } := I3.kept (t' := s3.toks) fun b ob q => Heap.get?_push_of_some _ q
  obtain ⟨T, id, hT, ht, hg⟩ := hr pins { s3 with heap := s3.heap.push { cls := .type "slice", data := .fields #[vl, vu, .none] } } σ H3 x v vl vu l u s3.heap.objs.size Q I4 r1 (Heap.IsSliceOf.new ..) pl pu q3
  show wpAny (model X.prog X.w) X.A (subscriptTail e (.Slice lo hi none p2) v (.ref s3.heap.objs.size)) (EP X pins σ Q) X.xe { s3 with heap := s3.heap.push { cls := .type "slice", data := .fields #[vl, vu, .none] } }
  exact tail_any (ops := [.ref s3.heap.objs.size, v]) ht hT hg (by with_unfolding_all rfl)

/-- the items of xs[lo:hi] -/
def cutV (xs : List V) (lo hi : Option Int) : List V := (xs.drop (HT.sIx xs.length 0 lo)).take (HT.sIx xs.length xs.length hi - HT.sIx xs.length 0 lo)
theorem cutV_length (xs : List V) (lo hi : Option Int) : (cutV xs lo hi).length ≤ xs.length := by
  unfold cutV
  rw [List.length_take, List.length_drop]
  omega
/-- t[lo:hi], not the whole of it (the whole would be t itself) -/
def rSlT (K : PySem.W.Frag) : V → Option Int → Option Int → Hp → VK → Prop := fun x lo hi H Q => ∃ a xs, x = .ref a ∧ SqT K H a xs ∧
  ¬ (HT.sIx xs.length 0 lo = 0 ∧ HT.sIx xs.length xs.length hi = xs.length) ∧ ∀ p, H p = none → Q (.ref p) (upd H p (.tup (cutV xs lo hi)))
theorem sl_tup : SlR X (rSlT X.K) := by
  intro pins s σ H x v vl vu lo hi sl Q I rx hs pl pu h
  obtain ⟨a, xs, rfl, hx, hw, q⟩ := h
  cases rx
  obtain ⟨its, r, ht, hz⟩ := I.tuple hx
  have hlen : its.toArray.size = xs.length := by rw [List.size_toArray]; exact r.length.symm
  refine ⟨"tuple", _, PyProof.Rows.slot_tuple_getitem.lookup, ht.typeIs, ?_⟩
  refine HT.getItem_tuple_cut ht hs pl pu (by rw [hlen]; exact hw) ?_ (by rw [hlen]; exact hz)
  rw [hlen]
  refine ⟨.ref s.heap.objs.size, _, I.laid (t' := s.toks) (o := .tup (cutV xs lo hi)) (fun b ob q => Heap.get?_push_of_some _ q) (Nat.le_refl _) ?_, rfl, q _ (I.hok.fresh (Nat.le_refl _))⟩
  exact ⟨Nat.le_trans (cutV_length xs lo hi) hz, _, (r.drop (HT.sIx xs.length 0 lo)).take (HT.sIx xs.length xs.length hi - HT.sIx xs.length 0 lo), IsTup.new _ _⟩

/-! ### t < u, t + u -/
/-- t + u, t not empty: u empty gives t itself -/
def rCatT (K : PySem.W.Frag) : R2 := fun x y H Q => ∃ a b xs ys, x = .ref a ∧ y = .ref b ∧ SqT K H a xs ∧ SqT K H b ys ∧ xs ≠ [] ∧ xs.length + ys.length ≤ sizeLine ∧
  (ys = [] → Q (.ref a) H) ∧ (ys ≠ [] → ∀ p, H p = none → Q (.ref p) (upd H p (.tup (xs ++ ys))))
theorem Vals.nil_iff {xs : List V} {us : List Value} (r : Vals xs us) : us = [] ↔ xs = [] := by
  cases r with
  | nil => simp
  | cons _ _ => simp
theorem op_catT : OpR X (binaryOp .Add) (rCatT X.K) := by
  intro pins s σ H x y v u Q I rx ry h
  obtain ⟨a, b, xs, ys, rfl, rfl, ha, hb, hx, hz, q1, q2⟩ := h
  cases rx
  cases ry
  obtain ⟨its, r1, p1, _⟩ := I.tuple ha
  obtain ⟨its2, r2, p2, _⟩ := I.tuple hb
  refine HT.cat_tup p1 p2 (fun z => hx (r1.nil_iff.mp z)) (fun z => ⟨.ref a, H, I, rfl, q1 (r2.nil_iff.mp z)⟩) (fun z => ?_) (by rw [← r1.length, ← r2.length]; exact hz)
  refine ⟨.ref s.heap.objs.size, _, I.laid (t' := s.toks) (o := .tup (xs ++ ys)) (fun b ob q => Heap.get?_push_of_some _ q) (Nat.le_refl _) ?_, rfl, q2 (fun w => z (r2.nil_iff.mpr w)) _ (I.hok.fresh (Nat.le_refl _))⟩
  exact ⟨by rw [List.length_append]; exact hz, _, r1.append r2, IsTup.new _ _⟩
end
end L2

namespace L2
open PySem PySem.Spec PyProof.Rows

/-! ### places -/
/-- the place that an index of any sign means -/
def ixN (n : Nat) (i : Int) : Option Nat := if 0 ≤ i then (if i < n then some i.toNat else none) else if -(n : Int) ≤ i then some (i + n).toNat else none
def atI {α : Type} (xs : List α) (i : Int) : Option α := (ixN xs.length i).bind fun j => xs[j]?
theorem ixN_seq {n : Nat} {i : Int} {j : Nat} (h : ixN n i = some j) : seqIndex? i n = some j ∧ j < n ∧ -(n : Int) ≤ i ∧ i < n := by
  unfold ixN at h
  by_cases h0 : 0 ≤ i
  · rw [if_pos h0] at h
    by_cases h1 : i < n
    · rw [if_pos h1] at h
      have e : i.toNat = j := Option.some.inj h
      exact ⟨by rw [seqIndex_of h0 h1, e], by omega, by omega, h1⟩
    · rw [if_neg h1] at h; cases h
  · rw [if_neg h0] at h
    by_cases h1 : -(n : Int) ≤ i
    · rw [if_pos h1] at h
      have e : (i + n).toNat = j := Option.some.inj h
      exact ⟨by rw [seqIndex_neg (by omega) h1, e], by omega, h1, by omega⟩
    · rw [if_neg h1] at h; cases h
theorem atI_get {α : Type} {xs : List α} {i : Int} {v : α} (h : atI xs i = some v) : ∃ j, seqIndex? i xs.length = some j ∧ xs[j]? = some v ∧ j < xs.length ∧ -(xs.length : Int) ≤ i ∧ i < xs.length := by
  unfold atI at h
  cases e : ixN xs.length i with
  | none => rw [e] at h; cases h
  | some j =>
    rw [e] at h
    obtain ⟨h1, h2, h3, h4⟩ := ixN_seq e
    exact ⟨j, h1, h, h2, h3, h4⟩
theorem atI_nat {α : Type} {xs : List α} {j : Nat} {v : α} (h : xs[j]? = some v) : atI xs (j : Int) = some v := by
  have hj : j < xs.length := (List.getElem?_eq_some_iff.mp h).1
  have e : ixN xs.length (j : Int) = some j := by
    unfold ixN
    rw [if_pos (by omega), if_pos (by omega)]; simp
  unfold atI; rw [e]; exact h

/-! ### what may be subscripted -/
/-- what stands as an index of a plain subscript -/
def PlainIx (b : Expr) : Prop := ∀ o i, subscripted b false o i = operate [o, i] (getItem o i)
/-- a subscript by values -/
def IxR (X : Cx) (r : R2) : Prop :=
  ∀ (value slice : Expr) (pins : List (Addr × Obj)) (s : Shared) (σ : St) (H : Hp) (x y : V) (v u : Value) (Q : VK), Inv X pins σ H s → RelV x v → RelV y u → r x y H Q →
    subscripted slice false v u = operate [v, u] (getItem v u) → wpAny (model X.prog X.w) X.A (subscriptTail value slice v u) (EP X pins σ Q) X.xe s
section
variable {X : Cx} {a b : Expr} {ta tb : TE} {pos : Pos}
/-- a[b] -/
theorem pe_ix {r : R2} (hr : IxR X r) (ha : PE X a ta) (hb : PE X b tb) (hs : PlainIx b) : PE X (.Subscript a b pos) (tOp r ta tb) := by
  intro pins s σ H Q I h
  exact Subscript_ (binT ha hb I h fun v u s2 x y H2 I2 rx ry q => hr a b pins s2 σ H2 x y v u Q I2 rx ry q (hs _ _))

def rIxL (K : PySem.W.Frag) : R2 := fun x y H Q => ∃ p xs i v, x = .ref p ∧ y = .int i ∧ SqL K H p xs ∧ atI xs i = some v ∧ Q v H
def rIxT (K : PySem.W.Frag) : R2 := fun x y H Q => ∃ p xs i v, x = .ref p ∧ y = .int i ∧ SqT K H p xs ∧ atI xs i = some v ∧ Q v H
theorem ix_list : IxR X (rIxL X.K) := by
  intro value slice pins s σ H x y v u Q I rx ry h hs
  obtain ⟨p, xs, i, z, rfl, rfl, hq, he, q⟩ := h
  cases rx
  obtain ⟨t, rfl⟩ := ry
  obtain ⟨its, r, pl, hz⟩ := I.list hq
  obtain ⟨j, h1, h2, h3, h4, h5⟩ := atI_get he
  obtain ⟨w, ew, rw'⟩ := r.get h2
  have hl := r.length
  have hn := line63
  have fin : EP X pins σ Q w s := ⟨z, H, I, rw', q⟩
  by_cases h0 : 0 ≤ i
  · have hj : i.toNat = j := by
      rw [seqIndex_of h0 h5] at h1
      exact Option.some.inj h1
    exact item_listR pl.isList h0 (by omega) (by rw [hj]; simpa using ew) fin hs
  · have hj : (i + (its.toArray.size : Int)).toNat = j := by
      rw [seqIndex_neg (by omega) h4] at h1
      rw [List.size_toArray, ← hl]
      exact Option.some.inj h1
    exact subscriptTail_builtinR (x := w) pl.isList.typeIs slot_list_getitem.lookup
      (wpAny_getItem_list_neg (Q := fun r s' => r = w ∧ EP X pins σ Q r s') pl.isList (by omega) (by rw [List.size_toArray] <;> omega) (by omega) (by rw [hj]; simpa using ew) ⟨rfl, fin⟩) hs
theorem ix_tup : IxR X (rIxT X.K) := by
  intro value slice pins s σ H x y v u Q I rx ry h hs
  obtain ⟨p, xs, i, z, rfl, rfl, hq, he, q⟩ := h
  cases rx
  obtain ⟨t, rfl⟩ := ry
  obtain ⟨its, r, pl, hz⟩ := I.tuple hq
  obtain ⟨j, h1, h2, h3, h4, h5⟩ := atI_get he
  obtain ⟨w, ew, rw'⟩ := r.get h2
  have hl := r.length
  have hn := line63
  have fin : EP X pins σ Q w s := ⟨z, H, I, rw', q⟩
  exact subscriptTail_builtinR (x := w) pl.typeIs slot_tuple_getitem.lookup
    (getItem_tuple (j := j) (Q := fun r s' => r = w ∧ EP X pins σ Q r s') pl (by omega) (by omega) (by rw [List.size_toArray, ← hl]; exact h1) (by simpa using ew) ⟨rfl, fin⟩) hs

/-! ### xs[i] = v, any sign -/
/-- the list's object behind a store -/
theorem mapSeq_set (its : List Value) (n j : Nat) (u : Value) : Obj.mapSeq (·.setIfInBounds j u) { cls := .type "list", data := .seq its.toArray n } = { cls := .type "list", data := .seq (its.set j u).toArray n } := by
  simp [Obj.mapSeq]
theorem Inv.lst {pins : List (Addr × Obj)} {σ : St} {H : Hp} {s : Shared} {p : Addr} {xs : List V} (I : Inv X pins σ H s) (h : H p = some (.lst xs)) :
    ∃ (its : List Value) (n : Nat), Vals xs its ∧ s.heap.get? p = some { cls := .type "list", data := .seq its.toArray n } ∧ xs.length ≤ sizeLine := by
  obtain ⟨z, its, n, r, e⟩ := I.hok p _ h
  exact ⟨its, n, r, e, z⟩
/-- the list at p is written by an update of its object -/
theorem Inv.lstUpd {pins : List (Addr × Obj)} {σ : St} {H : Hp} {s : Shared} {p : Addr} {xs ys : List V} {its its' : List Value} {n n' : Nat} {f : Obj → Obj} (I : Inv X pins σ H s) (h : H p = some (.lst xs))
    (ho : s.heap.get? p = some { cls := .type "list", data := .seq its.toArray n }) (hf : f { cls := .type "list", data := .seq its.toArray n } = { cls := .type "list", data := .seq its'.toArray n' }) (r : Vals ys its') (hz : ys.length ≤ sizeLine) (t : Nat) :
    Inv X pins σ (upd H p (.lst ys)) { s with heap := s.heap.update p f, toks := t } := by
  have e : (s.heap.update p f).get? p = some { cls := .type "list", data := .seq its'.toArray n' } := by
    rw [Heap.get?_update_self f ho (by rw [hf] <;> rfl), hf]
  refine I.write (x := p) (e := p) (by rw [h]; trivial) (.inl rfl) (fun b u hb q => (Heap.get?_update_other _ _ (Ne.symm hb)).trans q) ⟨_, e⟩ ?_
  exact ⟨hz, its', n', r, e⟩
def rSetL : V → V → V → Hp → (Hp → Prop) → Prop := fun o i v H Q => ∃ p xs k j, o = .ref p ∧ i = .int k ∧ H p = some (.lst xs) ∧ ixN xs.length k = some j ∧ Q (upd H p (.lst (xs.set j v)))
theorem set_list : PSet X rSetL := by
  intro pins s σ H o i v ov iv u Q I ro ri rv h
  obtain ⟨p, xs, k, j, rfl, rfl, hp, hj, q⟩ := h
  cases ro
  obtain ⟨t, rfl⟩ := ri
  obtain ⟨its, n, r, ho, hz⟩ := I.lst hp
  obtain ⟨h1, h2, h3, h4⟩ := ixN_seq hj
  have hl := r.length
  have hn := line63
  have I' : Inv X pins σ (upd H p (.lst (xs.set j v))) { s with heap := s.heap.update p (Obj.mapSeq (·.setIfInBounds j u)) } :=
    I.lstUpd hp ho (mapSeq_set its n j u) (r.set rv j) (by rw [List.length_set]; exact hz) s.toks
  by_cases h0 : 0 ≤ k
  · have hk : k.toNat = j := by
      rw [seqIndex_of h0 h4] at h1
      exact Option.some.inj h1
    exact PySem.W.ki_setAt ho h0 (by omega) (by rw [List.size_toArray, ← hl]; exact h4) (by rw [hk]; exact ⟨_, I', q⟩)
  · have hk : (k + (its.toArray.size : Int)).toNat = j := by
      rw [seqIndex_neg (by omega) h3] at h1
      rw [List.size_toArray, ← hl]
      exact Option.some.inj h1
    exact PySem.W.ki_setBack ho (by omega) (by rw [List.size_toArray, ← hl]; exact h3) (by omega) (by rw [hk]; exact ⟨_, I', q⟩)

/-! ### slices -/

/-! ### in, not in: flat items -/

/-! ### len, list(x), tuple(x) of any list or tuple that is read -/
theorem call_len_seq : CallR X (.builtin "len") (fun xs H Q => ∃ p ys, xs = [.ref p] ∧ (SqL X.K H p ys ∨ SqT X.K H p ys) ∧ Q (.int ys.length) H) := by
  intro pins s σ H xs us Q I r h
  obtain ⟨p, ys, rfl, hq, q⟩ := h
  obtain ⟨u, rfl, rx⟩ := vals1 r
  cases rx
  have hn := line63
  rcases hq with hq | hq
  · obtain ⟨its, r', pl, hz⟩ := I.list hq
    have hlen := r'.length
    exact Calls.call_len_list pl.isList (by simp only [List.size_toArray] <;> omega) ⟨.int ys.length, H, I.tok _, ⟨s.toks + 1, by rw [List.size_toArray, hlen]⟩, q⟩
  · obtain ⟨its, r', pl, hz⟩ := I.tuple hq
    have hlen := r'.length
    exact len_tuple pl (by simp only [List.size_toArray] <;> omega) ⟨.int ys.length, H, I.tok _, ⟨s.toks + 1, by rw [List.size_toArray, hlen]⟩, q⟩
theorem call_list_of : CallR X (.type "list") (fun xs H Q => ∃ p ys, xs = [.ref p] ∧ (SqL X.K H p ys ∨ SqT X.K H p ys) ∧ ∀ l, H l = none → Q (.ref l) (upd H l (.lst ys))) := by
  intro pins s σ H xs us Q I r h
  obtain ⟨p, ys, rfl, hq, q⟩ := h
  obtain ⟨u, rfl, rx⟩ := vals1 r
  cases rx
  have fin : ∀ (its : List Value), Vals ys its → ys.length ≤ sizeLine → ∀ (h' : Heap) (c' : Nat), (∀ b o', s.heap.get? b = some o' → h'.get? b = some o') →
      h'.get? s.heap.objs.size = some { cls := .type "list", dict := none, data := .seq its.toArray c', slots := #[] } → EP X pins σ Q (.ref s.heap.objs.size) { s with heap := h' } := fun its r' hz h' c' kp e =>
    ⟨.ref s.heap.objs.size, _, I.laid (t' := s.toks) kp (Nat.le_refl _) (show ObjOk X.prog X.w _ h' _ (.lst ys) from ⟨hz, its, c', r', e⟩), rfl, q _ (I.hok.fresh (Nat.le_refl _))⟩
  rcases hq with hq | hq
  · obtain ⟨its, r', pl, hz⟩ := I.list hq
    have hlen := r'.length
    obtain ⟨o, ho, hc, n, hd⟩ := pl.isList
    exact call_list_seq p (.inl rfl) ho hc hd (fun h' c' kp e => fin its r' hz h' c' kp e) (by simp only [List.size_toArray] <;> omega)
  · obtain ⟨its, r', pl, hz⟩ := I.tuple hq
    have hlen := r'.length
    obtain ⟨o, ho, hc, n, hd⟩ := pl
    exact call_list_seq p (.inr rfl) ho hc hd (fun h' c' kp e => fin its r' hz h' c' kp e) (by simp only [List.size_toArray] <;> omega)
theorem call_tuple_of : CallR X (.type "tuple") (fun xs H Q => ∃ p ys, xs = [.ref p] ∧ ((SqL X.K H p ys ∧ ∀ l, H l = none → Q (.ref l) (upd H l (.tup ys))) ∨ (SqT X.K H p ys ∧ Q (.ref p) H))) := by
  intro pins s σ H xs us Q I r h
  obtain ⟨p, ys, rfl, h⟩ := h
  obtain ⟨u, rfl, rx⟩ := vals1 r
  cases rx
  rcases h with ⟨hq, q⟩ | ⟨hq, q⟩
  · obtain ⟨its, r', pl, hz⟩ := I.list hq
    have hlen := r'.length
    refine call_tuple_list pl.isList (fun h' kp => ?_) (by simp only [List.size_toArray] <;> omega)
    have I1 : Inv X pins σ H { s with heap := h' } := I.kept (t' := s.toks) kp
    have I2 : Inv X pins σ (upd H h'.objs.size (.tup ys)) { s with heap := h'.push { cls := .type "tuple", data := .seq its.toArray } } :=
      I1.laid (t' := s.toks) (fun b o e => Heap.get?_push_of_some _ e) (Nat.le_refl _) (show ObjOk X.prog X.w _ _ _ (.tup ys) from ⟨hz, its, r', IsTup.new _ _⟩)
    exact ⟨.ref h'.objs.size, _, I2, rfl, q _ (I1.hok.fresh (Nat.le_refl _))⟩
  · obtain ⟨its, r', pl, hz⟩ := I.tuple hq
    exact call_tuple_same pl ⟨.ref p, H, I, rfl, q⟩

/-! ### the call of a builtin's method: o.m(..) -/
variable {o e : Expr} {es : List Expr} {to : TE} {t : TA} {name : Str} {apos cpos : Pos} {T id : String} {r : V → List V → Hp → VK → Prop}
/- xs.append(e), list.index on a module's tuple .. are MtR facts of 06m -/
end
end L2

namespace L2
open PySem PySem.Spec PyProof.Rows


/-! ### lists of values -/
theorem Vals.rep {xs : List V} {us : List Value} (h : Vals xs us) : ∀ k : Nat, Vals (List.replicate k xs).flatten (List.replicate k us).flatten
  | 0 => .nil
  | k + 1 => by
    rw [List.replicate_succ, List.replicate_succ, List.flatten_cons, List.flatten_cons]
    exact Vals.append h (Vals.rep h k)
theorem foldl_rep (its : List Value) : ∀ (k : Nat) (acc : List Value),
    List.foldl (fun x1 x2 => x1 ++ x2) acc.toArray (List.replicate k its.toArray) = (acc ++ (List.replicate k its).flatten).toArray
  | 0, acc => by simp
  | k + 1, acc => by
    have e : acc.toArray ++ its.toArray = (acc ++ its).toArray := by simp
    have e2 : (acc ++ its) ++ (List.replicate k its).flatten = acc ++ (List.replicate (k + 1) its).flatten := by
      rw [List.replicate_succ, List.flatten_cons, List.append_assoc]
    rw [← e2, ← foldl_rep its k (acc ++ its), ← e, List.replicate_succ, List.foldl_cons]

section
variable {X : Cx} {pins : List (Addr × Obj)} {σ : St} {H : Hp} {s : Shared} {l b : Addr} {xs ys zs : List V}

/-! ### the two steps: a tracked list is rewritten, a new list is laid -/
theorem Inv.lnew {its : List Value} {t' : Nat} (I : Inv X pins σ H s) (hv : Vals ys its) (hz : ys.length ≤ sizeLine) :
    Inv X pins σ (upd H s.heap.objs.size (.lst ys)) { s with heap := s.heap.push { cls := .type "list", data := .seq its.toArray }, toks := t' } :=
  I.laid (fun _ _ q => Heap.get?_push_of_some _ q) (Nat.le_refl _) ⟨hz, its, 0, hv, Heap.get?_push_size _ rfl⟩
theorem Inv.fresh (I : Inv X pins σ H s) : H s.heap.objs.size = none := I.hok.fresh (Nat.le_refl _)
theorem Inv.lstM (I : Inv X pins σ H s) (hH : H l = some (.lst xs)) : xs.length ≤ sizeLine ∧ ∃ (its : List Value) (n : Nat), Vals xs its ∧ xs.length = its.length ∧ s.heap.get? l = some { cls := .type "list", data := .seq its.toArray n } := by
  obtain ⟨z, its, n, r, e⟩ := I.hok l _ hH
  exact ⟨z, its, n, r, r.length, e⟩

end

section
variable {X : Cx}

/-! ### methods -/






/-! ### list + list, list += list, list * int -/
def rCat : R2 := fun x y H Q => ∃ l b xs zs, x = .ref l ∧ y = .ref b ∧ H l = some (.lst xs) ∧ H b = some (.lst zs) ∧ xs.length + zs.length ≤ sizeLine ∧ ∀ p, H p = none → Q (.ref p) (upd H p (.lst (xs ++ zs)))
theorem op_cat : OpR X (binaryOp .Add) rCat := by
  intro pins s σ H x y v u Q I rx ry h
  obtain ⟨l, b, xs, zs, rfl, rfl, hH, hB, hz, q⟩ := h
  cases rx
  cases ry
  obtain ⟨z, its, n, r, hl, e⟩ := I.lstM hH
  obtain ⟨z2, its2, n2, r2, hl2, e2⟩ := I.lstM hB
  refine PySem.P.add_list e e2 ?_ (by rw [List.size_toArray, List.size_toArray]; omega)
  have ea : its.toArray ++ its2.toArray = (its ++ its2).toArray := by simp
  rw [ea]
  exact ⟨.ref _, _, I.lnew (t' := s.toks) (r.append r2) (by rw [List.length_append]; omega), rfl, q _ I.fresh⟩
theorem len_rep {α : Type} (xs : List α) (k : Nat) : (List.replicate k xs).flatten.length = k * xs.length := by
  induction k with
  | zero => simp
  | succ k ih => rw [List.replicate_succ, List.flatten_cons, List.length_append, ih, Nat.succ_mul, Nat.add_comm]

/-! ### del xs[i] -/
end

/-! ### xs[a:b] = ys -/
section
variable {prog : Program} {w : World} {A : Around} {E : Value → Shared → Prop} {s : Shared}
set_option maxRecDepth 100000 in
end

section
variable {X : Cx}
end
end L2

namespace Att
open PySem PySem.W PySem.Calls PyProof.Rows

/-! ### the script -/
theorem ints_of_wellAll {P : Params} {h : Heap} : ∀ (ns : List Int) (vs : List Value), WellAll P h vs (ns.map WData.int) → IntsAre vs ns := by
  intro ns
  induction ns with
  | nil =>
    intro vs w
    rw [List.map_nil] at w
    cases w
    exact .nil
  | cons n ns ih =>
    intro vs w
    rw [List.map_cons] at w
    cases w with
    | cons a b =>
      cases a
      exact .cons _ _ (ih _ b)

theorem script_of {l : OpenLaw} {n : Nat} (hn : l.most = some n) {P : Params} {h : Heap} {args : List WData} {vals : List Value}
    (hpre : l.row.toRowW.claim.pre args = true) (hwl : WellAll P h vals args) :
    ∃ a vs ns, vals = [Value.ref a] ∧ args = [WData.list (ns.map WData.int)] ∧ h.get? a = some { cls := .type "list", data := .seq vs.toArray } ∧ IntsAre vs ns ∧ ns.length ≤ n := by
  have hsh : WShape.hasAll [] args [.list .int] = true := (pre_splitW hpre).1
  have hc : l.pre.holds [] { args := args } = true := (pre_splitW hpre).2
  obtain ⟨d, r, rfl, h1, h2⟩ := hasAllW_cons hsh
  obtain rfl := hasAllW_nil h2
  obtain ⟨xs, rfl, h3⟩ := hasW_list h1
  obtain ⟨ns, rfl⟩ := items_int h3
  have hlen : ns.length ≤ n := by
    unfold OpenLaw.pre at hc
    have h4 : (WTm.not (.lt (.lit (.int (n : Int))) (.len (.arg 0)))).holds [] { args := [.list (ns.map .int)] } = true := by
      have h4 := (holds_andW hc).1
      rw [hn] at h4
      exact h4
    have h5 := condW_of h4 (w_not (w_lt w_lit (w_len_list (w_arg rfl))))
    rw [List.length_map] at h5
    refine Nat.le_of_not_lt fun q => ?_
    have q' : (n : Int) < ((ns.length : Nat) : Int) := by omega
    first
      | (rw [decide_eq_true q'] at h5; exact absurd h5 (by decide))
      | (simp at h5; omega)
  cases hwl with
  | cons w1 w2 =>
    cases w2
    cases w1 with
    | list ho hall => exact ⟨_, _, ns, rfl, rfl, ho, ints_of_wellAll ns _ hall, hlen⟩

theorem post_true (l : OpenLaw) (args : List WData) : l.row.toRowW.claim.post args (.bool true) args = true :=
  postW_of (r := l.row.toRowW) (X := (true == true))
    (show WShape.has [] (.bool true) .bool = true by first | rfl | decide | simp [WShape.has, WShape.arms, WShape.armsAll])
    (show (WTm.eq .res (.lit (.bool true))).value [] { args := args, res := some (.bool true), after := args } = some (.bool (true == true)) from w_eq_bool (w_res rfl) w_lit) rfl

/-! ### the attachment: holds_open's last premise (the goal 'hc' behind k_head) from a wpAny of the law's body -/

/-- the same from a codeAny of the CALL (for a layer whose function contracts speak of calls) -/
theorem attach_call {l : OpenLaw} {n : Nat} {q : Program} {loose : List Str} {XP : (Str → Option Value) → Heap → Prop} {YP : World → Heap → Prop} {d : DefRec}
    (hn : l.most = some n) (hdf : d.params.defaults = [])
    (call : ∀ (w : World) (s₀ s₁ : Shared) (mg mb : Str → Option Value) (fa : Addr) (o : Obj) (pm cd doc : Value) (a : Addr) (vs : List Value) (ns : List Int),
      Ground q loose [] XP w s₀ mg mb s₁.heap → YP w s₁.heap →
      s₁.heap.get? fa = some o → o.data = .func (docDef d.name d.params d.body d.scope pm cd doc) → s₁.heap.CodeRec cd d.name → mg d.name = some (.ref fa) →
      s₁.heap.get? a = some { cls := .type "list", data := .seq vs.toArray } → IntsAre vs ns → ns.length ≤ n → s₁.gens = #[] →
      codeAny (model l.prog w) callerA (.call (.ref fa) ⟨[.ref a], []⟩) (fun r s' => r = .ok (.ret (.bool true)) ∧ OldK s₁.heap s'.heap ∧ s'.os = s₁.os ∧ AllBare s'.gens) s₁) :
    WalkO q loose XP YP l.row.toRowW d [] (fun f vs => PySem.call f vs) := by
  intro w s₀ s₁ mg mb G Y fa o pm cd doc dV kV ho hd hcd hD hmg hg args vals as hpre hlay hrd hwl hlo
  obtain rfl : dV = .none := Dflts.none hD hdf
  obtain rfl : kV = .none := Dflts.noKw hD
  obtain ⟨a, vs, ns, rfl, rfl, hobj, hints, hlen⟩ := script_of hn hpre hwl
  refine enter_call (codeAny_mono (call w s₀ s₁ mg mb fa o pm cd doc a vs ns G Y ho (fd_plain hd) hcd hmg hobj hints hlen hg) fun r s' hq => ?_)
  obtain ⟨rfl, h2, h3, h4⟩ := hq
  exact ⟨.inl ⟨.bool true, .bool true, [], rfl, fun _ => rfl, .bool true, post_true l _, fun _ => ⟨List.Pairwise.nil, fun _ hm => (nomatch hm)⟩⟩, h2, h3, h4⟩


/-! ### rules over ANY heap (no ledger) from facts about the written part K: the library's own take a ledger (News) for what they write -/
section
variable {prog : Program} {w : World} {A : Around} {E : Value → Shared → Prop} {s : Shared} {K : Frag}





/-! the whole heap as the ledger: makes every rule that writes through a ledger a rule over any heap -/

end
end Att

namespace L2
open PySem PySem.Spec PyProof.Rows

theorem vals_ints : ∀ {vs : List Value} {ns : List Int}, IntsAre vs ns → Vals (ns.map V.int) vs
  | _, _, .nil => .nil
  | _, _, .cons n t h => .cons ⟨t, rfl⟩ (vals_ints h)

/-- nothing is tracked but the script, known to the object (or it is an object of the module) -/
def Only (H : Hp) : Prop := ∀ b, H b = none ∨ ∃ o xs, H b = some (.frz o (.lst xs))

/-- THE HEAD: the law's promise, at the heap behind the top. F, the promise of the law's def, may use that base is part of the heap (so K.In base, base.Ns mainGlobals mg stand in Mod) -/
theorem law_call {P : Program} {w : World} {K : PySem.W.Frag} {mg mb : Str → Option Value} {CX : CXT} {k : Nat} {fa a : Addr} {fd : FuncData} {x : Str} {sp : Sp} {s₁ : Shared} {vs : List Value} {ns : List Int}
    (KX : K.In s₁.heap) (hns : s₁.heap.Ns mainGlobals mg) (hb : s₁.heap.Ns builtinsNs mb) (hbb : ∀ x : Str, x ≠ "__name__" → mb x = bootBuiltins x) (hlim : s₁.heap.NoLimit) (hg : s₁.gens = #[])
    (ha : s₁.heap.get? a = some { cls := .type "list", data := .seq vs.toArray }) (hi : IntsAre vs ns) (hl : ns.length ≤ sizeLine) (hr : Room k callerA)
    (F : ∀ base : Heap, K.In base → base.Ns mainGlobals mg → FnOk P w K mg base CX k fa fd [x] sp) (hbind : ∀ (s : Shared) (u : Value), BindsTo s fd ⟨[u], []⟩ [(x, u)])
    (hsp : ∀ H : Hp, Only H → SqL K H a (ns.map V.int) → sp [.ref a] H (fun v _ => v = .bl true) fun _ _ _ => False)
    (hCX : ∀ H e s', CX [] H s₁ (fun _ _ _ => False) e s' → False) :
    codeAny (model P w) callerA (.call (.ref fa) ⟨[.ref a], []⟩) (fun r s' => r = .ok (.ret (.bool true)) ∧ OldK s₁.heap s'.heap ∧ s'.os = s₁.os ∧ AllBare s'.gens) s₁ := by
  have rv := vals_ints hi
  have lenV := hi.length
  -- from an abstract heap in which nothing but the script may be tracked
  have core : ∀ H : Hp, Only H → SqL K H a (ns.map V.int) → HOk P w H s₁.heap → (∀ b, H b ≠ none → b = a) → (H a ≠ none → K.lookup a = none) →
      codeAny (model P w) callerA (.call (.ref fa) ⟨[.ref a], []⟩) (fun r s' => r = .ok (.ret (.bool true)) ∧ OldK s₁.heap s'.heap ∧ s'.os = s₁.os ∧ AllBare s'.gens) s₁ := by
    intro H hO hS hok hA hK
    have base_of : ∀ {b : Addr} {o : Obj}, s₁.heap.get? b = some o → H b = none → (hidT s₁.heap H).get? b = some o := fun e n => hidT_get e n
    have noA : ∀ {b : Addr} {o : Obj} {es : Array DictEntry} {ep : Nat}, s₁.heap.get? b = some o → o.data = .dict es ep → H b = none := fun {b o es ep} e d => by
      cases q : H b with
      | none => rfl
      | some u =>
        have e' : b = a := hA b (by rw [q]; simp)
        subst e'
        rw [ha] at e; cases e
        have d' : Data.seq vs.toArray _ = Data.dict es ep := d
        cases d'
    have nsK : ∀ {b : Addr} {m : Str → Option Value}, s₁.heap.Ns b m → (hidT s₁.heap H).Ns b m := fun {b m} ⟨o, es, ep, e, d, r⟩ => ⟨o, es, ep, base_of e (noA e d), d, r⟩
    have hKb : K.In (hidT s₁.heap H) := fun b o e => base_of (KX b o e) (by
      cases q : H b with
      | none => rfl
      | some u =>
        have e' : b = a := hA b (by rw [q]; simp)
        subst e'
        rw [hK (by rw [q]; simp)] at e; cases e)
    have hM : Mod K mg (hidT s₁.heap H) := ⟨hKb, nsK hns, ⟨mb, nsK hb, hbb⟩, let ⟨mc, h1, h2⟩ := hlim; ⟨mc, nsK h1, h2⟩⟩
    have e0 : Env0 P w K mg (hidT s₁.heap H) callerA [] s₁ H := ⟨rfl, hM, fun b o e => of_hidT e, Nat.le_of_eq (hidT_size _ _), trivial, fun b hb => absurd (show b ∈ ([] : List Addr) from hb) (by simp), hok, .of_eq hg⟩
    refine codeAny_mono ((F _ hKb (nsK hns)).run callerA [] s₁ H ⟨[.ref a], []⟩ [.ref a] [.ref a] _ _ hr e0 (hbind s₁ (.ref a)) (.cons rfl .nil) (hsp H hO hS)) fun r s' h => ?_
    cases r with
    | error e => exact (hCX H e s' h).elim
    | ok fl =>
      cases fl with
      | next => exact False.elim h
      | brk => exact False.elim h
      | cont => exact False.elim h
      | ret u =>
        obtain ⟨v, H', os, bare, un, hok', r', q⟩ := h
        have q' : v = .bl true := q
        subst q'
        obtain rfl : u = Value.bool true := r'
        refine ⟨rfl, OldK.of_keep fun b o e => ?_, os, bare⟩
        cases q : H b with
        | none => exact un.keep b o e q (by intro z; exact absurd (show b ∈ ([] : List Addr) from z) (by simp)) (by simp)
        | some u =>
          rcases hO b with z | ⟨ob, xs, z⟩
          · rw [q] at z; cases z
          · have z2 := un.frzs b ob _ z
            obtain ⟨e1, _⟩ := hok b _ z
            obtain ⟨e2, _⟩ := hok' b _ z2
            rw [e] at e1; cases e1
            exact e2
  cases hk : K.lookup a with
  | some o =>
    -- the script is one of the module's own objects
    have e := KX a o hk
    rw [ha] at e
    cases e
    refine core (fun _ => none) (fun _ => .inl rfl) (.inr ⟨_, vs.toArray, _, hk, rfl, rfl, rfl, by rw [List.size_toArray, lenV]; exact hl, by simpa using rv⟩) (fun b u z => by have z' : (none : Option HO) = some u := z; cases z') (fun b z => absurd rfl z) fun z => absurd rfl z
  | none =>
    refine core (fun b => if b = a then some (.frz { cls := .type "list", data := .seq vs.toArray } (.lst (ns.map V.int))) else none) (fun b => ?_) (.inl (.inr ⟨{ cls := .type "list", data := .seq vs.toArray }, if_pos rfl⟩)) (fun b u z => ?_) (fun b z => ?_) fun _ => hk
    · by_cases hb : b = a
      · exact .inr ⟨_, _, if_pos hb⟩
      · exact .inl (if_neg hb)
    · by_cases hb : b = a
      · have z' := (if_pos hb).symm.trans z
        cases z'
        subst hb
        exact ⟨ha, by rw [List.length_map]; exact hl, vs, _, rv, ha⟩
      · have z' := (if_neg hb).symm.trans z
        cases z'
    · by_cases hb : b = a
      · exact hb
      · exact absurd (if_neg hb) z
end L2

namespace L2
open PySem PySem.Spec PyProof.Rows


/-- the goal that k_head leaves (case hc), from the law's promise. F gives the function object fd (K's own) once, then the promise over every base -/
theorem walk_of {l : PySem.W.OpenLaw} {n k : Nat} {q : Program} {loose : List Str} {XP : (Str → Option Value) → Heap → Prop} {YP : World → Heap → Prop} {d : DefRec} {K : Params → PySem.W.Frag} {CX : World → CXT} {sp : World → Sp} {x : Str}
    (hn : l.most = some n) (hn2 : n ≤ sizeLine) (hdf : d.params.defaults = []) (hr : Room k callerA)
    (hY : ∀ (w : World) (h : Heap), YP w h → (K w.params).In h)
    (F : ∀ (w : World) (mg : Str → Option Value) (fa : Addr) (h : Heap), (K w.params).In h → h.Ns mainGlobals mg → mg d.name = some (.ref fa) →
      ∃ fd : FuncData, (∀ (s : Shared) (u : Value), BindsTo s fd ⟨[u], []⟩ [(x, u)]) ∧
        ∀ base : Heap, (K w.params).In base → base.Ns mainGlobals mg → FnOk l.prog w (K w.params) mg base (CX w) k fa fd [x] (sp w))
    (hsp : ∀ (w : World) (H : Hp) (a : Addr) (ns : List Int), ns.length ≤ n → Only H → SqL (K w.params) H a (ns.map V.int) → sp w [.ref a] H (fun v _ => v = .bl true) fun _ _ _ => False)
    (hCX : ∀ (w : World) (H : Hp) (s : Shared) (e : Value) (s' : Shared), CX w [] H s (fun _ _ _ => False) e s' → False) :
    PySem.W.WalkO q loose XP YP l.row.toRowW d [] (fun f vs => PySem.call f vs) := by
  refine Att.attach_call hn hdf fun w s₀ s₁ mg mb fa o pm cd doc a vs ns G Y ho hd hcd hmg hobj hints hlen hg => ?_
  have KX := hY w _ Y
  obtain ⟨fd, hb, hF⟩ := F w mg fa _ KX G.T.g hmg
  exact law_call KX G.T.g G.T.b G.T.builtins G.T.nolimit hg hobj hints (Nat.le_trans hlen hn2) hr hF hb (fun H hO hS => hsp w H a ns hlen hO hS) fun H e s' => hCX w H s₁ e s'
end L2

/- THE LAST THEOREM (shape; LID, My.* are yours):
   My.Adr: a structure of the addresses that your layer names (classes, functions); My.Txt K t: a structure (Prop) of the equations over K;
   My.txt_mk : {K} {implicit addresses ..} (e1 : nsIn K mainGlobals "law" = some (some (.ref f))) (e2 : K.lookup f = some ⟨oc, od, .func (fnOf "law" "law" params body scope dV kV doc pm an cdv ct), sl⟩) (e3 : codeIn K cdv "law" = true) .. : ∃ t, My.Txt K t

set_option maxRecDepth 100000 in
set_option maxHeartbeats 0 in
theorem PySem.Challenge.cw_LID_holds : PySem.Challenge.rw_LID.Holds := by
  w_on; o_law; k_head; (case hw => w_witness2)
  k_fill
  refine L2.walk_of (l := PySem.Challenge.rw_LID) (n := 63) (k := 40) (x := "script") (CX := fun w => ..) (sp := fun _ => My.sp_law) rfl (by decide) rfl ⟨rfl, by decide, by decide⟩ (fun w h Y => PySem.W.kIn_of Y) ?F ?S ?C
  case F =>
    intro w mg fa h KX G hmg
    have T : ∃ t, My.Txt (L2.KOf KX) t := by
      dsimp only [L2.KOf]                          -- K must stand as «<heap const> w.params» for k_is
      refine' My.txt_mk ?e1 ?e2 ?e3 ..
      (case e1 => PySem.W.k_is)                    -- in the order: a name -> its address -> its object -> its parts
      (case e2 => PySem.W.k_is)
      ..
    obtain ⟨t, T⟩ := T
    have e0 := hmg.symm.trans (PySem.W.mg_of KX G T.law)
    cases e0                                       -- fa is the law's own address
    exact ⟨_, fun s u => .of_eq rfl, fun base kb nb => My.law_fn T kb nb⟩     -- if «.of_eq rfl» comes too early: refine' ⟨_, ?b, fun base kb nb => My.law_fn T kb nb⟩; exact fun s u => .of_eq rfl
  case S => exact fun w H a ns hl hO hS => ..
  case C => exact ..
(the tactic k_is has no namespace: write k_is) -/

/-! SHORT WORDS over the layer: a def of the text, its body, what a loop and a test want. -/
namespace L2
open PySem PySem.Spec PyProof.Rows

/-! ### the text by places -/
/-- the j-th statement of a class's body -/
def inClass (s : Stmt) (j : Nat) : Stmt := match s with
  | .ClassDef _ _ _ body _ _ _ _ _ _ _ => body.getD j (.Pass ⟨0, 0, 0, 0⟩)
  | _ => .Pass ⟨0, 0, 0, 0⟩
def defArgs (s : Stmt) : Arguments := match s with
  | .FunctionDef _ a _ _ _ _ _ _ _ _ => a
  | _ => { posonlyargs := [], args := [], vararg := none, kwonlyargs := [], kw_defaults := [], kwarg := none, defaults := [] }
def defBody (s : Stmt) : List Stmt := match s with
  | .FunctionDef _ _ b _ _ _ _ _ _ _ => b
  | _ => []
def defScope (s : Stmt) : Scope := match s with
  | .FunctionDef _ _ _ _ _ _ sc _ _ _ => sc
  | _ => { kind := .function, names := [], isGenerator := false, isCoroutine := false }

/-! ### no exception leaves a def -/
abbrev CX0 : CXT := fun _ _ _ _ _ _ => False
abbrev E0 : XK := fun _ _ _ => False
theorem pass0 {X : Cx} : Passes CX0 X E0 := fun _ _ _ _ _ _ _ h => h.elim

/-! ### a def (or method) of the text as it stands behind the top -/
structure Fun (K : PySem.W.Frag) (x qual : Str) (st : Stmt) (f : Addr) (fd : FuncData) : Prop where
  ex : ∃ (oc : Value) (od : Option Addr) (kV doc pm : Value) (an : Option Addr) (cdv ct : Value) (osl : Array (Option Value)),
    fd = PySem.W.fnOf x qual (defArgs st) (defBody st) (defScope st) .none kV doc pm an cdv ct ∧ K.lookup f = some ⟨oc, od, .func fd, osl⟩ ∧ PySem.W.codeIn K cdv qual = true
  kp : PySem.W.keepIn K (.ref f) = true
section
variable {P : Program} {w : World} {K : PySem.W.Frag} {mg : Str → Option Value} {base : Heap}
/-- THE RULE for a def: its body as a term of rules, and the reading of that term -/
theorem Fun.ok {x qual : Str} {st : Stmt} {f : Addr} {fd : FuncData} {N ps : List Str} {k : Nat} {sp : Sp} (F : Fun K x qual st f fd) (S : FnScope N ps (defScope st)) (len : ∀ vs H Q E, sp vs H Q E → vs.length = ps.length)
    (hbody : ∀ (cdv : Value) (A : Around) (outer : List Env) (s : Shared) (H : Hp) (vs : List V) (Q : VK) (E : XK), Room k (A.deeper (envOfC qual (defScope st) s.heap.objs.size f cdv)) → sp vs H Q E →
      ∃ t, PSs (cxOf CX0 P w K mg base N qual (defScope st) f cdv A outer s H E).nox (defBody st) t ∧ t { nx := fun _ H' => Q .non H', rt := Q } (start N vs) H) : FnOk P w K mg base CX0 (k + 1) f fd ps sp := by
  obtain ⟨oc, od, kV, doc, pm, an, cdv, ct, osl, rfl, lk, hcd⟩ := F.ex
  refine fn_of lk hcd S len fun A outer s H vs Q E hr hsp => ?_
  obtain ⟨t, h, q⟩ := hbody cdv A outer s H vs Q E hr hsp
  exact ⟨t, h.nox, q⟩
/-- how its arguments bind (no defaults): h is «fun _ _ _ _ _ _ us hl => match us, hl with | [_, _], _ => rfl», one _ a parameter -/
theorem Fun.binds {x qual : Str} {st : Stmt} {f : Addr} {fd : FuncData} {ps : List Str} (F : Fun K x qual st f fd)
    (h : ∀ (kV doc pm : Value) (an : Option Addr) (cdv ct : Value) (us : List Value), us.length = ps.length → bindArgs (PySem.W.fnOf x qual (defArgs st) (defBody st) (defScope st) .none kV doc pm an cdv ct) ⟨us, []⟩ = pure (ps.zip us)) : Binds K fd ps [] := by
  obtain ⟨oc, od, kV, doc, pm, an, cdv, ct, osl, rfl, lk, hcd⟩ := F.ex
  exact .all (h kV doc pm an cdv ct)
theorem fun_mk {x qual : Str} {st : Stmt} {f : Addr} {oc : Value} {od an : Option Addr} {osl : Array (Option Value)} {kV doc pm cdv ct : Value} (l : K.lookup f = some ⟨oc, od, .func (PySem.W.fnOf x qual (defArgs st) (defBody st) (defScope st) .none kV doc pm an cdv ct), osl⟩)
    (c : PySem.W.codeIn K cdv qual = true) (k : PySem.W.keepIn K (.ref f) = true) : Fun K x qual st f (PySem.W.fnOf x qual (defArgs st) (defBody st) (defScope st) .none kV doc pm an cdv ct) := ⟨⟨oc, od, kV, doc, pm, an, cdv, ct, osl, rfl, l, c⟩, k⟩
end
theorem small1000 {n : Nat} (h : n ≤ 1000) : n < sizeLine := Nat.lt_of_le_of_lt h (by decide)

/-! ### expressions in short: the name that stands in the i-th slot -/
section
variable {X : Cx}
theorem pv (i : Nat) {x : Str} {pos : Pos} (hN : X.N[i]? = some x := by rfl) (hv : Vis X.env.scope x := by first | exact Or.inl rfl | exact Or.inr (Or.inl rfl) | exact Or.inr (Or.inr rfl)) (hd : (x == ("__debug__" : Str)) = false := by decide)
    (hcd : (x == ("__classdict__" : Str)) = false := by decide) : PE X (.Name x pos) (tVar i) := pe_var hN hv hd hcd
end

/-! ### tests -/
theorem iteF {A B : Prop} (h : B) : if false = true then A else B := by
  rw [if_neg Bool.false_ne_true]
  exact h
theorem iteT {A B : Prop} (h : A) : if true = true then A else B := by
  rw [if_pos rfl]
  exact h

/-! ### heaps -/
/-- all that was tracked is as it was -/
def Same (H H' : Hp) : Prop := ∀ b o, H b = some o → H' b = some o
theorem Same.refl (H : Hp) : Same H H := fun _ _ h => h
theorem Same.trans {H H1 H2 : Hp} (a : Same H H1) (b : Same H1 H2) : Same H H2 := fun c o h => b c o (a c o h)
theorem Same.free {H H' : Hp} (e : Same H H') {l : Addr} (h : H' l = Option.none) : H l = Option.none := by
  cases q : H l with
  | none => rfl
  | some o =>
    rw [e l o q] at h
    cases h
theorem Same.seq {K : PySem.W.Frag} {H H' : Hp} {a : Addr} {xs : List V} (e : Same H H') (h : SqL K H a xs) : SqL K H' a xs := by
  rcases h with (h | ⟨o, h⟩) | h
  · exact .inl (.inl (e _ _ h))
  · exact .inl (.inr ⟨o, e _ _ h⟩)
  · exact .inr h

end L2

namespace L3
open PySem

/-- the tests of a comprehension's clause -/
def tests (ifs : List Expr) (env : Env) : Sem Bool :=
  forIn ifs true fun c r => if r = true then (do let ok ← isTrue c env (eval c env); pure (ForInStep.yield ok)) else pure (ForInStep.yield r)

section
variable {prog : Program} {w : World} {A : Around} {R : Result → Shared → Prop} {s : Shared}

/-- the loop of a list's comprehension, whatever its target -/
theorem comp_loop {elt tg iter : Expr} {ifs : List Expr} {sc : Scope} {pos : Pos} {it acc : Value} {env : Env} (J : Nat → Shared → Prop) {EE : Value → Shared → Prop}
    (hEE : ∀ e s', EE e s' → notedBy (model prog w) A env (fun e s' => R (.error e) s') e s')
    (turn : ∀ n s, J n s → wpAny (model prog w) A (pyNext it) (fun r s₁ => (r = none → R (.ok .next) s₁) ∧ ∀ v, r = some v →
      wpAny (model prog w) A (letOwnedTupleGo tg it v) (fun _ s₂ => wpAny (model prog w) A (assign tg env v) (fun _ s₃ => wpAny (model prog w) A (tests ifs env) (fun ok s₄ =>
        (ok = true → wpAny (model prog w) A (eval elt env) (fun x s₅ => wpAny (model prog w) A (call (.builtin "list.append") [acc, x]) (fun _ s₆ => ∃ m, m < n ∧ J m s₆) EE s₅) EE s₄) ∧
        (ok = false → ∃ m, m < n ∧ J m s₄)) EE s₃) EE s₂) EE s₁) EE s)
    (n : Nat) (h : J n s) : codeAny (model prog w) A (.compLoop (.ListComp elt [⟨tg, iter, ifs, 0⟩] sc pos) 0 it acc env) R s := by
  refine codeAny_loop rfl J (fun n s hJ => ?_) n h
  show wpAny _ A ((compTurn (.ListComp elt [⟨tg, iter, ifs, 0⟩] sc pos) 0 it acc env).onRaise _) _ _ s
  refine wpAny_noted (wpAny_mono (E := EE) ?_ (fun _ _ q => q) fun e s' q => hEE e s' q)
  rw [compTurn_list]
  refine wpAny_bind (wpAny_standAt (wpAny_bind (wpAny_mono (turn n s hJ) (fun r s₁ h₁ => ?_) fun _ _ q => q)))
  cases r with
  | none => exact wpAny_pure (h₁.1 rfl)
  | some v =>
    refine wpAny_bind (wpAny_mono (h₁.2 v rfl) (fun _ s₂ h₂ => ?_) fun _ _ q => q)
    refine wpAny_bind (wpAny_mono h₂ (fun _ s₃ h₃ => ?_) fun _ _ q => q)
    refine wpAny_bind (wpAny_mono h₃ (fun ok s₄ h₄ => ?_) fun _ _ q => q)
    cases ok with
    | false => exact wpAny_pure ⟨rfl, h₄.2 rfl⟩
    | true =>
      refine wpAny_bind (wpAny_bind (wpAny_mono (h₄.1 rfl) (fun x s₅ h₅ => ?_) fun _ _ q => q))
      exact wpAny_bind (wpAny_mono h₅ (fun _ s₆ h₆ => wpAny_pure (wpAny_pure ⟨rfl, h₆⟩)) fun _ _ q => q)
theorem tests_nil {env : Env} {Q : Bool → Shared → Prop} {E : Value → Shared → Prop} (h : Q true s) : wpAny (model prog w) A (tests [] env) Q E s := wpAny_pure h

/-- the cells that a comprehension's block draws from around it -/
def clOf (cells : List (Str × Addr)) : List (Str × NameKind) → List (Str × Addr) → List (Str × Addr)
  | [], acc => acc
  | (n, k) :: r, acc => if k == .free then clOf cells r (match cells.lookup n with | some c => (n, c) :: acc | none => acc) else clOf cells r acc
theorem closure_eq {env : Env} : ∀ (names : List (Str × NameKind)) (acc : List (Str × Addr)), (∀ p ∈ names, p.2 = .free → ∃ c, env.cells.lookup p.1 = some c) →
    (forIn names acc fun (x : Str × NameKind) (cs : List (Str × Addr)) => match x with
      | (name, kind) => if (kind == NameKind.free) = true then (do let c ← cellOf env name; pure (ForInStep.yield ((name, c) :: cs))) else (pure (ForInStep.yield cs) : Sem (ForInStep (List (Str × Addr))))) = pure (clOf env.cells names acc)
  | [], acc, _ => rfl
  | (n, k) :: r, acc, h => by
    have ih := fun acc => closure_eq r acc fun p hp => h p (List.mem_cons_of_mem _ hp)
    rw [List.forIn_cons]
    by_cases hk : (k == NameKind.free) = true
    · obtain ⟨c, hc⟩ := h (n, k) List.mem_cons_self (by simpa using hk)
      have e : cellOf env n = pure c := by unfold cellOf; rw [hc]
      dsimp only
      rw [if_pos hk, e]
      unfold clOf
      rw [if_pos hk, hc]
      exact ih _
    · dsimp only
      rw [if_neg hk]
      unfold clOf
      rw [if_neg hk]
      exact ih _
theorem closure_of {env : Env} {sc : Scope} (h : ∀ p ∈ sc.names, p.2 = .free → ∃ c, env.cells.lookup p.1 = some c) : closureFor sc env = pure (clOf env.cells sc.names []) := by
  unfold closureFor
  have e := closure_eq (env := env) sc.names [] h
  simp only [e]
  rfl
theorem clOf_sub {cells : List (Str × Addr)} : ∀ (names : List (Str × NameKind)) (acc : List (Str × Addr)), (∀ x c, acc.lookup x = some c → cells.lookup x = some c) → ∀ x c, (clOf cells names acc).lookup x = some c → cells.lookup x = some c
  | [], acc, h, x, c, e => h x c e
  | (n, k) :: r, acc, h, x, c, e => by
    unfold clOf at e
    split at e
    · refine clOf_sub r _ (fun y d q => ?_) x c e
      split at q
      · rename_i c' hc'
        by_cases hy : y = n
        · subst hy
          rw [List.lookup_cons_self] at q
          cases q
          exact hc'
        · have hb : (y == n) = false := beq_eq_false_iff_ne.mpr hy
          rw [List.lookup_cons, hb] at q
          exact h y d q
      · exact h y d q
    · exact clOf_sub r acc h x c e
theorem clOf_keep {cells : List (Str × Addr)} : ∀ (names : List (Str × NameKind)) (acc : List (Str × Addr)) (x : Str), (∃ c, acc.lookup x = some c) → ∃ c, (clOf cells names acc).lookup x = some c
  | [], acc, x, h => h
  | (n, k) :: r, acc, x, h => by
    unfold clOf
    split
    · refine clOf_keep r _ x ?_
      split
      · rename_i c' hc'
        by_cases hy : x = n
        · subst hy
          exact ⟨c', List.lookup_cons_self⟩
        · have hb : (x == n) = false := beq_eq_false_iff_ne.mpr hy
          rw [List.lookup_cons, hb]
          exact h
      · exact h
    · exact clOf_keep r acc x h
theorem clOf_has {cells : List (Str × Addr)} : ∀ (names : List (Str × NameKind)) (acc : List (Str × Addr)) (x : Str), (x, NameKind.free) ∈ names → (∃ c, cells.lookup x = some c) → ∃ c, (clOf cells names acc).lookup x = some c
  | [], acc, x, h, _ => by cases h
  | (n, k) :: r, acc, x, h, hc => by
    unfold clOf
    rcases List.mem_cons.mp h with e | e
    · cases e
      obtain ⟨c, hc⟩ := hc
      rw [if_pos (beq_self_eq_true _), hc]
      exact clOf_keep r _ n ⟨c, List.lookup_cons_self⟩
    · split
      · exact clOf_has r _ x e hc
      · exact clOf_has r acc x e hc
end
end L3

namespace L3
open PySem

/-- an iterator over a list or a tuple, at place i -/
def SeqIt (b : Bool) (h : Heap) (it l : Addr) (i : Nat) : Prop := if b = true then h.IsListIter it l i else h.IsTupleIter it l i
/-- the list or tuple itself -/
def SeqIs (b : Bool) (h : Heap) (l : Addr) (xs : Array Value) : Prop := if b = true then h.IsList l xs else h.IsTuple l xs
theorem SeqIt.ext {b : Bool} {h h' : Heap} {it l c : Addr} {i : Nat} (x : SeqIt b h it l i) (e : Heap.ExtBut c h h') (n : it ≠ c) : SeqIt b h' it l i := by
  cases b with
  | true => exact (show h.IsListIter it l i from x).extBut e n
  | false => exact (show h.IsTupleIter it l i from x).extBut e n
theorem SeqIs.ext {b : Bool} {h h' : Heap} {l c : Addr} {xs : Array Value} (x : SeqIs b h l xs) (e : Heap.ExtBut c h h') (n : l ≠ c) : SeqIs b h' l xs := by
  cases b with
  | true => exact (show h.IsList l xs from x).extBut e n
  | false => exact (show h.IsTuple l xs from x).extBut e n
theorem SeqIt.at {b : Bool} {h h' : Heap} {it l : Addr} {i : Nat} (x : SeqIt b h it l i) (e : ∀ o, h.get? it = some o → h'.get? it = some o) : SeqIt b h' it l i := by
  cases b with
  | true => exact (show h.IsListIter it l i from x).at e
  | false => obtain ⟨o, ho, r⟩ := (show h.IsTupleIter it l i from x); exact ⟨o, e o ho, r⟩
theorem SeqIs.at {b : Bool} {h h' : Heap} {l : Addr} {xs : Array Value} (x : SeqIs b h l xs) (e : ∀ o, h.get? l = some o → h'.get? l = some o) : SeqIs b h' l xs := by
  cases b with
  | true => exact (show h.IsList l xs from x).at e
  | false => obtain ⟨o, ho, r⟩ := (show h.IsTuple l xs from x); exact ⟨o, e o ho, r⟩
theorem SeqIt.obj {b : Bool} {h : Heap} {it l : Addr} {i : Nat} (x : SeqIt b h it l i) : ∃ o vs, h.get? it = some o ∧ o.data = .fields vs := by
  cases b with
  | true => obtain ⟨o, e, _, d⟩ := (show h.IsListIter it l i from x); exact ⟨o, _, e, d⟩
  | false => obtain ⟨o, e, _, d⟩ := (show h.IsTupleIter it l i from x); exact ⟨o, _, e, d⟩

section
variable {prog : Program} {w : World} {A : Around} {E : Value → Shared → Prop} {s : Shared}

theorem next_tup_item {it t : Addr} {i : Nat} {its : Array Value} {x : Value} {Q : Value → Shared → Prop} (a1 : s.heap.IsTupleIter it t i) (a2 : s.heap.IsTuple t its) (a3 : its[i]? = some x)
    (k : ∀ h', h'.IsTupleIter it t (i + 1) → Heap.SameBut it s.heap h' → Q x { s with heap := h' }) : wpAny (model prog w) A (Builtin.SmallTypes.nextOf (.ref it)) Q E s := by
  obtain ⟨o, e, c, d⟩ := id a1
  obtain ⟨ot, et, _, nt, dt⟩ := a2
  unfold Builtin.SmallTypes.nextOf
  refine wpAny_bind (wpAny_callSpecial?_slot (name := Str.ofString "__next__") a1.typeIs F.slot_tuple_iterator_next (wpAny_call_entry F.slot_tuple_iterator_next a1.typeIs F.entry_tuple_iterator_next ?_ (F.args_tuple_iterator_next_1 _)))
  show wpAny _ _ (field (.ref it) 0 >>= _) _ _ s
  refine wpAny_bind (wpAny_field e d (x := .ref t) rfl ?_)
  show wpAny _ _ (if (Value.ref t == Value.none) = true then _ else _) _ _ s
  rw [if_neg (by exact Bool.false_ne_true)]
  show wpAny _ _ (field (.ref it) 1 >>= _) _ _ s
  refine wpAny_bind (wpAny_field e d (x := .int i 0) rfl ?_)
  show wpAny _ _ (seqItems? (.ref t) >>= _) _ _ s
  refine wpAny_bind (wpAny_seqItems et dt ?_)
  simp only [Int.toNat_natCast, a3]
  refine wpAny_bind (wpAny_setField e d (by simp) (wpAny_pure ⟨x, rfl, wpAny_pure (k _ ⟨_, Heap.get?_update_self _ e (Obj.isFreed_of_fields (Obj.data_mapFields d _)), (Obj.cls_mapFields ..).trans c, ?_⟩ (Heap.SameBut.update ..))⟩))
  rw [Obj.data_mapFields d]
  simp [rawInt]
theorem next_tup_end {it t : Addr} {i : Nat} {its : Array Value} {Q : Value → Shared → Prop} (hh : A.handled = none) (a1 : s.heap.IsTupleIter it t i) (a2 : s.heap.IsTuple t its) (a3 : its[i]? = none)
    (k : ∀ h' x, Heap.ExtBut it s.heap h' → (∃ o, h'.get? x = some o ∧ o.cls = .type "StopIteration") → E (.ref x) { s with heap := h' }) : wpAny (model prog w) A (Builtin.SmallTypes.nextOf (.ref it)) Q E s := by
  obtain ⟨o, e, c, d⟩ := id a1
  obtain ⟨ot, et, _, nt, dt⟩ := a2
  unfold Builtin.SmallTypes.nextOf
  refine wpAny_bind (wpAny_callSpecial?_slot (name := Str.ofString "__next__") a1.typeIs F.slot_tuple_iterator_next (wpAny_call_entry F.slot_tuple_iterator_next a1.typeIs F.entry_tuple_iterator_next ?_ (F.args_tuple_iterator_next_1 _)))
  show wpAny _ _ (field (.ref it) 0 >>= _) _ _ s
  refine wpAny_bind (wpAny_field e d (x := .ref t) rfl ?_)
  show wpAny _ _ (if (Value.ref t == Value.none) = true then _ else _) _ _ s
  rw [if_neg (by exact Bool.false_ne_true)]
  show wpAny _ _ (field (.ref it) 1 >>= _) _ _ s
  refine wpAny_bind (wpAny_field e d (x := .int i 0) rfl ?_)
  show wpAny _ _ (seqItems? (.ref t) >>= _) _ _ s
  refine wpAny_bind (wpAny_seqItems et dt ?_)
  simp only [Int.toNat_natCast, a3]
  refine wpAny_bind (wpAny_rule (wpAny_bind (wpAny_setField e d (by simp) ?_)))
  show wpAny _ _ (newExc (.type "StopIteration") [] >>= _) _ _ _
  refine wpAny_bind ?_
  unfold newExc newTuple
  refine wpAny_bind (wpAny_newObj_type ?_ (by size_fits))
  refine wpAny_bind (m := firstArgMember _ _) (wpAny_of_eq (a := Value.none) (by first | rfl | (simp only [firstArgMember]; rfl)) ?_)
  refine wpAny_newObj_type ?_ (by size_fits)
  unfold raiseNew
  refine wpAny_bind (wpAny_handled ?_)
  first | rw [show A.in1.handled = none from hh] | rw [hh]
  exact wpAny_bind (wpAny_pure (wpAny_throw (k _ _ (((Heap.SameBut.update ..).extBut.push _).push _) ⟨_, Heap.get?_push_size _ rfl, rfl⟩)))
theorem next_item {b : Bool} {it l : Addr} {i : Nat} {xs : Array Value} {x : Value} {Q : Value → Shared → Prop} (a1 : SeqIt b s.heap it l i) (a2 : SeqIs b s.heap l xs) (a3 : xs[i]? = some x)
    (k : ∀ h', SeqIt b h' it l (i + 1) → Heap.SameBut it s.heap h' → Q x { s with heap := h' }) : wpAny (model prog w) A (Builtin.SmallTypes.nextOf (.ref it)) Q E s := by
  cases b with
  | true => exact wpAny_nextOf_list_item a1 a2 a3 k
  | false => exact next_tup_item a1 a2 a3 k
theorem next_end {b : Bool} {it l : Addr} {i : Nat} {xs : Array Value} {Q : Value → Shared → Prop} (hh : A.handled = none) (a1 : SeqIt b s.heap it l i) (a2 : SeqIs b s.heap l xs) (a3 : xs[i]? = none)
    (k : ∀ h' x, Heap.ExtBut it s.heap h' → (∃ o, h'.get? x = some o ∧ o.cls = .type "StopIteration") → E (.ref x) { s with heap := h' }) : wpAny (model prog w) A (Builtin.SmallTypes.nextOf (.ref it)) Q E s := by
  cases b with
  | true => exact wpAny_nextOf_list_end hh a1 a2 a3 k
  | false => exact next_tup_end hh a1 a2 a3 k

/-- zip over two of them: one pair more -/
theorem zip_item {b1 b2 : Bool} {z TI TO i1 i2 l1 l2 : Addr} {k1 k2 : Nat} {xs ys : Array Value} {x y a b : Value} {Q : Option Value → Shared → Prop} (D : ZipApart z TI TO i1 i2 l1 l2)
    (hz : IsZip s.heap z TI TO .none) (hTI : IsPair s.heap TI (.ref i1) (.ref i2)) (hTO : IsPair s.heap TO a b) (n1 : SeqIt b1 s.heap i1 l1 k1) (n2 : SeqIt b2 s.heap i2 l2 k2) (m1 : SeqIs b1 s.heap l1 xs) (m2 : SeqIs b2 s.heap l2 ys)
    (hx : xs[k1]? = some x) (hy : ys[k2]? = some y)
    (hQ : ∀ h', IsZip h' z TI TO (rawInt s.heap.objs.size) → IsPair h' TO x y → SeqIt b1 h' i1 l1 (k1 + 1) → SeqIt b2 h' i2 l2 (k2 + 1) → IsPair h' s.heap.objs.size x y →
      (∀ c o, c ≠ z → c ≠ TO → c ≠ i1 → c ≠ i2 → s.heap.get? c = some o → h'.get? c = some o) → Q (some (.ref s.heap.objs.size)) { s with heap := h' }) : wpAny (model prog w) A (pyNext (.ref z)) Q E s := by
  have hT : s.TypeIs (.ref z) "zip" := ⟨_, hz, rfl⟩
  unfold pyNext
  refine wpAny_bind (wpAny_attempt (wpAny_callSpecial?_slot (name := Str.ofString "__next__") hT F.slot_zip_next (wpAny_call_entry F.slot_zip_next hT F.entry_zip_next ?_ (F.args_zip_next_1 _))))
  show wpAny _ _ (field (.ref z) 2 >>= _) _ _ s
  refine wpAny_bind (wpAny_field hz rfl (x := .bool false) rfl ?_)
  show wpAny _ _ (field (.ref z) 3 >>= _) _ _ s
  refine wpAny_bind (wpAny_field hz rfl (x := .ref TI) rfl (wpAny_bind (wpAny_seqItems hTI rfl ?_)))
  show wpAny _ _ (Builtin.SmallTypes.ownedTupleIsFree (.ref z) >>= _) _ _ s
  unfold Builtin.SmallTypes.ownedTupleIsFree
  refine wpAny_bind (wpAny_bind (wpAny_field hz rfl (x := .none) rfl (wpAny_pure ?_)))
  simp only [if_true]
  refine wpAny_bind (wpAny_rule (wpAny_bind (wpAny_field hz rfl (x := .ref TO) rfl (wpAny_bind (wpAny_setField_rec hz (by simp) fun g1 hz1 s1 => ?_)))))
  have hz1 : IsZip g1 z TI TO .ellipsis := hz1
  simp only [List.zipIdx_cons, List.zipIdx_nil, List.forIn_cons, List.forIn_nil]
  refine wpAny_bind (wpAny_bind (wpAny_bind (wpAny_onRaise ?_)))
  show wpAny _ _ (Builtin.SmallTypes.nextOf (.ref i1) >>= _) _ _ _
  refine wpAny_bind (next_item (n1.ext s1.extBut D.i1z) (m1.ext s1.extBut D.l1z) hx fun g2 n1' s2 => wpAny_pure ?_)
  have t2 : IsPair g2 TO a b := s2.extBut _ _ D.TOi1 (s1.extBut _ _ D.TOz hTO)
  refine wpAny_bind (wpAny_seqItems t2 rfl (wpAny_bind (wpAny_updateSeq_pair t2 fun g3 t3 s3 => wpAny_bind (wpAny_letGo (wpAny_pure ?_)))))
  have t3 : IsPair g3 TO x b := t3
  refine wpAny_bind (wpAny_bind (wpAny_onRaise ?_))
  show wpAny _ _ (Builtin.SmallTypes.nextOf (.ref i2) >>= _) _ _ _
  refine wpAny_bind (next_item (((n2.ext s1.extBut D.i2z).ext s2.extBut D.i12.symm).ext s3.extBut D.TOi2.symm) (((m2.ext s1.extBut D.l2z).ext s2.extBut D.l2i1).ext s3.extBut D.l2TO) hy fun g4 n2' s4 => wpAny_pure ?_)
  have t4 : IsPair g4 TO x b := s4.extBut _ _ D.TOi2 t3
  refine wpAny_bind (wpAny_seqItems t4 rfl (wpAny_bind (wpAny_updateSeq_pair t4 fun g5 t5 s5 => wpAny_bind (wpAny_letGo (wpAny_pure (wpAny_pure ?_))))))
  have t5 : IsPair g5 TO x y := t5
  refine wpAny_bind (wpAny_seqItems t5 rfl (wpAny_bind (wpAny_newTuple ?_)))
  have hsz : g5.objs.size = s.heap.objs.size := by rw [s5.1, s4.1, s3.1, s2.1, s1.1]
  have hz5 : IsZip g5 z TI TO .ellipsis := s5.extBut _ _ D.TOz.symm (s4.extBut _ _ D.i2z.symm (s3.extBut _ _ D.TOz.symm (s2.extBut _ _ D.i1z.symm hz1)))
  have k5 : ∀ c o, c ≠ z → c ≠ TO → c ≠ i1 → c ≠ i2 → s.heap.get? c = some o → g5.get? c = some o := fun c o c1 c2 c3 c4 e =>
    s5.extBut _ _ c2 (s4.extBut _ _ c4 (s3.extBut _ _ c2 (s2.extBut _ _ c3 (s1.extBut _ _ c1 e))))
  have n15 : SeqIt b1 g5 i1 l1 (k1 + 1) := ((n1'.ext s3.extBut D.TOi1.symm).ext s4.extBut D.i12).ext s5.extBut D.TOi1.symm
  have n25 : SeqIt b2 g5 i2 l2 (k2 + 1) := n2'.ext s5.extBut D.TOi2.symm
  have zlt : z < g5.objs.size := Heap.lt_size hz5
  show wpAny _ _ (Builtin.SmallTypes.ownedTupleHandOut (.ref z) (.ref g5.objs.size) >>= _) _ _ _
  unfold Builtin.SmallTypes.ownedTupleHandOut
  have hz6 : IsZip (g5.push { cls := .type "tuple", data := .seq #[x, y] }) z TI TO .ellipsis := Heap.get?_push_of_some _ hz5
  refine wpAny_bind (wpAny_bind (wpAny_setField_rec hz6 (by simp) fun g7 hz7 s7 => ?_))
  have hz7 : IsZip g7 z TI TO (rawInt g5.objs.size) := hz7
  refine wpAny_setField_rec hz7 (by simp) fun g8 hz8 s8 => ?_
  have hz8 : IsZip g8 z TI TO (rawInt g5.objs.size) := hz8
  have up : ∀ c o, c ≠ z → g5.get? c = some o → g8.get? c = some o := fun c o c1 e => s8.extBut _ _ c1 (s7.extBut _ _ c1 (Heap.get?_push_of_some _ e))
  have hT8 : IsPair g8 g5.objs.size x y := s8.extBut _ _ (Nat.ne_of_gt zlt) (s7.extBut _ _ (Nat.ne_of_gt zlt) (Heap.get?_push_size _ rfl))
  rw [hsz] at hz8 hT8
  refine wpAny_pure ⟨_, rfl, ?_⟩
  show wpAny _ _ (pure (some (Value.ref g5.objs.size)) : Sem (Option Value)) _ _ _
  rw [hsz]
  exact wpAny_pure (hQ g8 hz8 (up _ _ D.TOz t5) (n15.at fun o e => up _ o D.i1z e) (n25.at fun o e => up _ o D.i2z e) hT8 fun c o c1 c2 c3 c4 e => up c o c1 (k5 c o c1 c2 c3 c4 e))
theorem zip_end {b1 b2 : Bool} {z TI TO i1 i2 l1 l2 : Addr} {k1 k2 : Nat} {xs ys : Array Value} {a b : Value} {Q : Option Value → Shared → Prop} (hh : A.handled = none) (D : ZipApart z TI TO i1 i2 l1 l2)
    (hz : IsZip s.heap z TI TO .none) (hTI : IsPair s.heap TI (.ref i1) (.ref i2)) (hTO : IsPair s.heap TO a b) (n1 : SeqIt b1 s.heap i1 l1 k1) (n2 : SeqIt b2 s.heap i2 l2 k2) (m1 : SeqIs b1 s.heap l1 xs) (m2 : SeqIs b2 s.heap l2 ys)
    (hend : xs[k1]? = none ∨ ys[k2]? = none)
    (hQ : ∀ h', (∀ c o, c ≠ z → c ≠ TO → c ≠ i1 → c ≠ i2 → s.heap.get? c = some o → h'.get? c = some o) → Q none { s with heap := h' }) : wpAny (model prog w) A (pyNext (.ref z)) Q E s := by
  have hT : s.TypeIs (.ref z) "zip" := ⟨_, hz, rfl⟩
  have fin : ∀ (h' : Heap) (e : Addr), (∀ c o, c ≠ z → c ≠ TO → c ≠ i1 → c ≠ i2 → s.heap.get? c = some o → h'.get? c = some o) → (∃ o, h'.get? e = some o ∧ o.cls = .type "StopIteration") →
      wpAny (model prog w) A (do if ← isInstance (.ref e) (.type "StopIteration") then pure none else throw (.ref e)) Q E { s with heap := h' } := fun h' e hk ⟨o, ho, hc⟩ =>
    wpAny_bind (wpAny_isInstance (T := "StopIteration") (b := true) ⟨o, ho, hc⟩ isSubtype_stop (wpAny_pure (hQ _ hk)))
  unfold pyNext
  refine wpAny_bind (wpAny_attempt (wpAny_callSpecial?_slot (name := Str.ofString "__next__") hT F.slot_zip_next (wpAny_call_entry F.slot_zip_next hT F.entry_zip_next ?_ (F.args_zip_next_1 _))))
  show wpAny _ _ (field (.ref z) 2 >>= _) _ _ s
  refine wpAny_bind (wpAny_field hz rfl (x := .bool false) rfl ?_)
  show wpAny _ _ (field (.ref z) 3 >>= _) _ _ s
  refine wpAny_bind (wpAny_field hz rfl (x := .ref TI) rfl (wpAny_bind (wpAny_seqItems hTI rfl ?_)))
  show wpAny _ _ (Builtin.SmallTypes.ownedTupleIsFree (.ref z) >>= _) _ _ s
  unfold Builtin.SmallTypes.ownedTupleIsFree
  refine wpAny_bind (wpAny_bind (wpAny_field hz rfl (x := .none) rfl (wpAny_pure ?_)))
  simp only [if_true]
  refine wpAny_bind (wpAny_rule (wpAny_bind (wpAny_field hz rfl (x := .ref TO) rfl (wpAny_bind (wpAny_setField_rec hz (by simp) fun g1 hz1 s1 => ?_)))))
  have hz1 : IsZip g1 z TI TO .ellipsis := hz1
  simp only [List.zipIdx_cons, List.zipIdx_nil, List.forIn_cons, List.forIn_nil]
  refine wpAny_bind (wpAny_bind (wpAny_bind (wpAny_onRaise ?_)))
  show wpAny _ _ (Builtin.SmallTypes.nextOf (.ref i1) >>= _) _ _ _
  cases hx : xs[k1]? with
  | none =>
    refine wpAny_bind (next_end hh (n1.ext s1.extBut D.i1z) (m1.ext s1.extBut D.l1z) hx fun g2 e s2 he => ?_)
    obtain ⟨oe, hoe, hce⟩ := he
    have hz2 : IsZip g2 z TI TO .ellipsis := s2 _ _ D.i1z.symm hz1
    have hez : e ≠ z := fun q => by subst q; rw [hz2] at hoe; cases hoe; simp at hce
    exact wpAny_setField_rec hz2 (by simp) fun g3 _ s3 => fin g3 e (fun c o c1 _ c3 _ q => s3.extBut _ _ c1 (s2 _ _ c3 (s1.extBut _ _ c1 q))) ⟨oe, s3.extBut _ _ hez hoe, hce⟩
  | some x =>
    have hy : ys[k2]? = none := by
      rcases hend with q | q
      · rw [hx] at q; cases q
      · exact q
    refine wpAny_bind (next_item (n1.ext s1.extBut D.i1z) (m1.ext s1.extBut D.l1z) hx fun g2 n1' s2 => wpAny_pure ?_)
    have t2 : IsPair g2 TO a b := s2.extBut _ _ D.TOi1 (s1.extBut _ _ D.TOz hTO)
    refine wpAny_bind (wpAny_seqItems t2 rfl (wpAny_bind (wpAny_updateSeq_pair t2 fun g3 t3 s3 => wpAny_bind (wpAny_letGo (wpAny_pure ?_)))))
    refine wpAny_bind (wpAny_bind (wpAny_onRaise ?_))
    show wpAny _ _ (Builtin.SmallTypes.nextOf (.ref i2) >>= _) _ _ _
    refine wpAny_bind (next_end hh (((n2.ext s1.extBut D.i2z).ext s2.extBut D.i12.symm).ext s3.extBut D.TOi2.symm) (((m2.ext s1.extBut D.l2z).ext s2.extBut D.l2i1).ext s3.extBut D.l2TO) hy fun g4 e s4 he => ?_)
    obtain ⟨oe, hoe, hce⟩ := he
    have hz4 : IsZip g4 z TI TO .ellipsis := s4 _ _ D.i2z.symm (s3.extBut _ _ D.TOz.symm (s2.extBut _ _ D.i1z.symm hz1))
    have hez : e ≠ z := fun q => by subst q; rw [hz4] at hoe; cases hoe; simp at hce
    exact wpAny_setField_rec hz4 (by simp) fun g5 _ s5 => fin g5 e (fun c o c1 c2 c3 c4 q => s5.extBut _ _ c1 (s4 _ _ c4 (s3.extBut _ _ c2 (s2.extBut _ _ c3 (s1.extBut _ _ c1 q))))) ⟨oe, s5.extBut _ _ hez hoe, hce⟩

abbrev itObj (b : Bool) (l : Addr) : Obj := { cls := .type (if b = true then "list_iterator" else "tuple_iterator"), data := .fields #[.ref l, .int 0 0] }
theorem iter_obj {b : Bool} {l : Addr} {xs : Array Value} {Q : Value → Shared → Prop} (m : SeqIs b s.heap l xs) (k : Q (.ref s.heap.objs.size) { s with heap := s.heap.push (itObj b l) }) : wpAny (model prog w) A (pyIter (.ref l)) Q E s := by
  cases b with
  | true => exact wpAny_pyIter_list m k
  | false => exact wpAny_pyIter_tuple m k
theorem itObj_at {b : Bool} {h : Heap} {a l : Addr} (e : h.get? a = some (itObj b l)) : SeqIt b h a l 0 := by
  cases b with
  | true => exact ⟨_, e, rfl, rfl⟩
  | false => exact ⟨_, e, rfl, rfl⟩
end
abbrev zp1 (b1 : Bool) (h : Heap) (l1 : Addr) : Heap := h.push (itObj b1 l1)
abbrev zp2 (b1 b2 : Bool) (h : Heap) (l1 l2 : Addr) : Heap := (zp1 b1 h l1).push (itObj b2 l2)
abbrev zp3 (b1 b2 : Bool) (h : Heap) (l1 l2 : Addr) : Heap := (zp2 b1 b2 h l1 l2).push { cls := .type "tuple", data := .seq #[.ref h.objs.size, .ref (zp1 b1 h l1).objs.size] }
abbrev zp4 (b1 b2 : Bool) (h : Heap) (l1 l2 : Addr) : Heap := (zp3 b1 b2 h l1 l2).push { cls := .type "tuple", data := .seq #[.none, .none] }
abbrev zp5 (b1 b2 : Bool) (h : Heap) (l1 l2 : Addr) : Heap := (zp4 b1 b2 h l1 l2).push { cls := .type "zip", data := .fields #[.none, .bool false, .bool false, .ref (zp2 b1 b2 h l1 l2).objs.size, .ref (zp3 b1 b2 h l1 l2).objs.size] }
theorem SeqIs.push {b : Bool} {h : Heap} {l : Addr} {xs : Array Value} (x : SeqIs b h l xs) (o : Obj) : SeqIs b (h.push o) l xs := x.at fun _ e => Heap.get?_push_of_some _ e
theorem zip_new (b1 b2 : Bool) (l1 l2 : Addr) (xs ys : Array Value) :
    Meets (Builtin.«zip.__new__» ⟨[.type "zip", .ref l1, .ref l2], []⟩) (fun _ R s => SeqIs b1 s.heap l1 xs ∧ SeqIs b2 s.heap l2 ys ∧ R (.ok (.ret (.ref (zp4 b1 b2 s.heap l1 l2).objs.size))) { s with heap := zp5 b1 b2 s.heap l1 l2 }) :=
  .of_wp fun prog w A R s h => by
    obtain ⟨hp, g, d, tk, os⟩ := s
    obtain ⟨m1, m2, h⟩ := h
    have hsub := sub_zip
    have M1 : SeqIs b1 (Shared.heap ⟨hp, g, d, tk, os⟩) l1 xs := m1
    have M2 : SeqIs b2 (Shared.heap ⟨hp.push (itObj b1 l1), g, d, tk, os⟩) l2 ys := SeqIs.push m2 _
    wp_walk using iter_obj M1, iter_obj M2
    exact ⟨_, rfl, h⟩
section
variable {prog : Program} {w : World} {A : Around} {E : Value → Shared → Prop} {s : Shared}
theorem zip_call {b1 b2 : Bool} {l1 l2 : Addr} {xs ys : Array Value} {Q : Value → Shared → Prop} (m1 : SeqIs b1 s.heap l1 xs) (m2 : SeqIs b2 s.heap l2 ys)
    (k : ∀ h', IsZip h' (s.heap.objs.size + 4) (s.heap.objs.size + 2) (s.heap.objs.size + 3) .none → IsPair h' (s.heap.objs.size + 2) (.ref s.heap.objs.size) (.ref (s.heap.objs.size + 1)) →
      IsPair h' (s.heap.objs.size + 3) .none .none → SeqIt b1 h' s.heap.objs.size l1 0 → SeqIt b2 h' (s.heap.objs.size + 1) l2 0 → (∀ c o, s.heap.get? c = some o → h'.get? c = some o) → Q (.ref (s.heap.objs.size + 4)) { s with heap := h' }) :
    wpAny (model prog w) A (call (.type "zip") [.ref l1, .ref l2]) Q E s := by
  refine callType_new F.called_zip (by decide) (F.typeCall_zip_2 _ _) (F.newCall_zip_2 _ _) (fun obj => F.args_object_init_3 obj _ _) F.entry_zip_new (zip_new b1 b2 l1 l2 xs ys) ⟨m1, m2, ?_⟩
  have z1 : (zp1 b1 s.heap l1).objs.size = s.heap.objs.size + 1 := Heap.size_push ..
  have z2 : (zp2 b1 b2 s.heap l1 l2).objs.size = s.heap.objs.size + 2 := by rw [Heap.size_push, z1]
  have z3 : (zp3 b1 b2 s.heap l1 l2).objs.size = s.heap.objs.size + 3 := by rw [Heap.size_push, z2]
  have z4 : (zp4 b1 b2 s.heap l1 l2).objs.size = s.heap.objs.size + 4 := by rw [Heap.size_push, z3]
  have q5 : (zp5 b1 b2 s.heap l1 l2).get? (zp4 b1 b2 s.heap l1 l2).objs.size = some _ := Heap.get?_push_size _ rfl
  have q4 : (zp5 b1 b2 s.heap l1 l2).get? (zp3 b1 b2 s.heap l1 l2).objs.size = some _ := Heap.get?_push_of_some _ (Heap.get?_push_size _ rfl)
  have q3 : (zp5 b1 b2 s.heap l1 l2).get? (zp2 b1 b2 s.heap l1 l2).objs.size = some _ := Heap.get?_push_of_some _ (Heap.get?_push_of_some _ (Heap.get?_push_size _ rfl))
  have q2 : (zp5 b1 b2 s.heap l1 l2).get? (zp1 b1 s.heap l1).objs.size = some _ := Heap.get?_push_of_some _ (Heap.get?_push_of_some _ (Heap.get?_push_of_some _ (Heap.get?_push_size _ rfl)))
  have q1 : (zp5 b1 b2 s.heap l1 l2).get? s.heap.objs.size = some _ := Heap.get?_push_of_some _ (Heap.get?_push_of_some _ (Heap.get?_push_of_some _ (Heap.get?_push_of_some _ (Heap.get?_push_size _ rfl))))
  show _ ∧ _
  rw [z2, z3, z4] at q5
  rw [z1, z2] at q3
  rw [z3] at q4
  rw [z1] at q2
  rw [z4]
  exact ⟨⟨_, q5, rfl⟩, k _ q5 q3 q4 (itObj_at q1) (itObj_at q2) fun c o x => Heap.get?_push_of_some _ (Heap.get?_push_of_some _ (Heap.get?_push_of_some _ (Heap.get?_push_of_some _ (Heap.get?_push_of_some _ x))))⟩
end
end L3

namespace L3
open PySem
open AutoSeq1 (wpAny_loadPart')

section
variable {prog : Program} {w : World} {A : Around} {E : Value → Shared → Prop} {s : Shared}
end
end L3

namespace L2
open PySem PySem.Spec PyProof.Rows L3

/-! ### a comprehension's block -/
def cxC (X : Cx) (sc : Scope) (N : List Str) (s : Shared) (H : Hp) (ex : List Addr) (C : Addr) : Cx :=
  { X with N := N, s₀ := s, H₀ := H, env := compEnvC sc (clOf X.env.cells sc.names []) C X.env, outer := X.stack, ex := ex, fn := fun _ => false, pn := [], xe := fun _ _ => False }
/-- what the block's scope must be: own names, names drawn from around it (idx: their slots there) -/
structure ScC (X : Cx) (sc : Scope) (N : List Str) (idx : List Nat) : Prop where
  kind : sc.kind = .function
  nocell : ∀ y ∈ sc.names, y.2 ≠ .cell
  locs : ∀ y ∈ sc.names, y.2 = .local → sc.names.lookup y.1 = some .local
  frees : ∀ y ∈ sc.names, y.2 = .free → X.env.scope.names.lookup y.1 = some .cell
  le : idx.length ≤ N.length
  cap : ∀ (k i : Nat) (x : Str), idx[k]? = some i → N[k]? = some x → X.N[i]? = some x ∧ sc.names.lookup x = some .free
/-- the block's names at its start -/
def capS (idx : List Nat) (n : Nat) (σ : St) : St := idx.map (fun i => (σ[i]?).join) ++ List.replicate (n - idx.length) none
theorem capS_len {idx : List Nat} {n : Nat} {σ : St} (h : idx.length ≤ n) : (capS idx n σ).length = n := by
  unfold capS
  rw [List.length_append, List.length_map, List.length_replicate]
  omega
theorem capS_get {idx : List Nat} {n k : Nat} {σ : St} {v : V} (h : (capS idx n σ)[k]? = some (some v)) : ∃ i, idx[k]? = some i ∧ σ[i]? = some (some v) := by
  unfold capS at h
  by_cases hk : k < idx.length
  · rw [List.getElem?_append_left (by simpa using hk), List.getElem?_map] at h
    cases e : idx[k]? with
    | none => rw [e] at h; cases h
    | some i =>
      rw [e] at h
      have h' : (σ[i]?).join = some v := Option.some.inj h
      refine ⟨i, rfl, ?_⟩
      cases e2 : σ[i]? with
      | none => rw [e2] at h'; cases h'
      | some o => rw [e2] at h'; rw [show o = some v from h']
  · rw [List.getElem?_append_right (by simpa using hk), List.getElem?_replicate] at h
    split at h
    · cases h
    · cases h

/-- what relabel does to one name -/
def rl (env : Env) (p : Str × NameKind) : Str × NameKind := if (p.2 == NameKind.free && env.scope.kind == .function && env.kindOf p.1 == some .cell) = true then (p.1, NameKind.cell) else p
theorem rl_hit {env : Env} {n : Str} {k : NameKind} (h : (k == NameKind.free && env.scope.kind == .function && env.kindOf n == some .cell) = true) : rl env (n, k) = (n, .cell) := if_pos h
theorem rl_miss {env : Env} {n : Str} {k : NameKind} (h : ¬ (k == NameKind.free && env.scope.kind == .function && env.kindOf n == some .cell) = true) : rl env (n, k) = (n, k) := if_neg h
theorem relabel_free {env : Env} (hf : env.scope.kind = .function) : ∀ {names : List (Str × NameKind)} {x : Str}, names.lookup x = some .free → env.kindOf x = some .cell → (names.map (rl env)).lookup x = some .cell
  | [], _, h, _ => by simp at h
  | (n, k) :: r, x, h, hc => by
    have ih := @relabel_free env hf r x
    rw [List.map_cons]
    by_cases hx : x = n
    · subst hx
      rw [List.lookup_cons_self] at h
      cases h
      rw [rl_hit (by rw [hf, hc]; decide), List.lookup_cons_self]
    · have hb : (x == n) = false := beq_eq_false_iff_ne.mpr hx
      rw [List.lookup_cons, hb] at h
      have e := ih h hc
      by_cases q : (k == NameKind.free && env.scope.kind == .function && env.kindOf n == some .cell) = true
      · rw [rl_hit q, List.lookup_cons, hb]; exact e
      · rw [rl_miss q, List.lookup_cons, hb]; exact e
theorem relabel_back {env : Env} : ∀ {names : List (Str × NameKind)} {x : Str} {kd : NameKind}, (names.map (rl env)).lookup x = some kd → (x, kd) ∈ names ∨ (x, NameKind.free) ∈ names
  | [], _, _, h => by simp at h
  | (n, k) :: r, x, kd, h => by
    have ih := @relabel_back env r x kd
    rw [List.map_cons] at h
    by_cases q : (k == NameKind.free && env.scope.kind == .function && env.kindOf n == some .cell) = true
    · rw [rl_hit q] at h
      by_cases hx : x = n
      · subst hx
        have hk : k = .free := by
          rw [Bool.and_eq_true, Bool.and_eq_true] at q
          exact eq_of_beq q.1.1
        subst hk
        exact .inr List.mem_cons_self
      · have hb : (x == n) = false := beq_eq_false_iff_ne.mpr hx
        rw [List.lookup_cons, hb] at h
        exact (ih h).elim (fun e => .inl (List.mem_cons_of_mem _ e)) fun e => .inr (List.mem_cons_of_mem _ e)
    · rw [rl_miss q] at h
      by_cases hx : x = n
      · subst hx
        rw [List.lookup_cons_self] at h
        cases h
        exact .inl List.mem_cons_self
      · have hb : (x == n) = false := beq_eq_false_iff_ne.mpr hx
        rw [List.lookup_cons, hb] at h
        exact (ih h).elim (fun e => .inl (List.mem_cons_of_mem _ e)) fun e => .inr (List.mem_cons_of_mem _ e)

/-- an untracked young object is tracked from here on -/
theorem Inv.adopt {X : Cx} {pins : List (Addr × Obj)} {σ : St} {H : Hp} {s : Shared} {a : Addr} {o : HO} (I : Inv X pins σ H s) (hn : H a = none) (ya : X.s₀.heap.objs.size ≤ a) (hL : a ≠ X.env.locals)
    (hc : ∀ x c, X.env.cells.lookup x = some c → c ≠ a) (hp : ∀ p ∈ X.pn ++ pins, p.1 ≠ a) (new : ObjOk X.prog X.w (upd H a o) s.heap a o) : Inv X pins σ (upd H a o) s := by
  have ne : ∀ b u, H b = some u → b ≠ a := fun b u e => ne_of_none e hn
  refine ⟨I.ok, I.os, I.bare, ⟨I.base.keep, I.base.slot, fun b u q n hx => ?_, I.base.there, fun b xs q => ?_, fun b u xs q => ?_, fun b ps q => ?_⟩, I.loc, I.cell, ?_, fun x c e => ?_, fun p hq => ?_, fun b u q => ?_, I.len⟩
  · rw [upd_ne (Nat.ne_of_lt (Nat.lt_of_lt_of_le (Heap.lt_size q) ya))]
    exact I.base.free b u q n hx
  · have e := I.base.tups b xs q
    rw [upd_ne (ne b _ e)]; exact e
  · have e := I.base.frzs b u xs q
    rw [upd_ne (ne b _ e)]; exact e
  · obtain ⟨m, e⟩ := I.base.tbls b ps q
    exact ⟨m, by rw [upd_ne (ne b _ e)]; exact e⟩
  · rw [upd_ne (Ne.symm hL)]; exact I.free
  · rw [upd_ne (hc x c e)]; exact I.freeC x c e
  · obtain ⟨e1, e2, e3⟩ := I.pin p hq
    exact ⟨e1, by rw [upd_ne (hp p hq)]; exact e2, e3⟩
  · by_cases hb : b = a
    · subst hb; rw [upd_same] at q; cases q; exact new
    · rw [upd_ne hb] at q
      exact (I.hok b u q).stay (fun _ _ _ z => z) (fun c z => by rw [upd_ne (ne c _ z)]; exact z) fun c xs z => by rw [upd_ne (ne c _ z)]; exact z

section
variable {X : Cx} {pins : List (Addr × Obj)} {σ : St} {H : Hp} {s : Shared} {sc : Scope} {N : List Str} {idx : List Nat} {fp : List Addr}
abbrev nilObj : Obj := { cls := .type "list", data := .seq ([] : List Value).toArray }
abbrev withAcc (s : Shared) : Shared := { s with heap := s.heap.push nilObj }
theorem young_fp (I : Inv X pins σ H s) {b : Addr} (h : FpOk X pins H b) : X.base.get? b = none := by
  cases e : X.base.get? b with
  | none => rfl
  | some o =>
    rcases h.2.2.2.1 with z | z
    · exact absurd z (I.ok.noex b o e)
    · exact absurd (Nat.lt_of_lt_of_le (Heap.lt_size e) (Nat.le_trans I.ok.bsz z)) (Nat.lt_irrefl _)
/-- the block is entered -/
theorem comp_inv (I : Inv X pins σ H s) (S : ScC X sc N idx) (hf : ∀ b ∈ fp, FpOk X pins H b) (ho : ∀ b ∈ fp, ∃ o, s.heap.get? b = some o) {h' : Heap} {m : Str → Option Value} {t : Nat}
    (hns : h'.Ns (s.heap.push nilObj).objs.size m) (hk : ∀ b o, (s.heap.push nilObj).get? b = some o → h'.get? b = some o) :
    Inv (cxC X sc N (withAcc s) H (s.heap.objs.size :: fp) (s.heap.push nilObj).objs.size) [] (capS idx N.length σ) H { withAcc s with heap := h', toks := t } := by
  have I3 : Inv X pins σ H (withAcc s) := I.kept (t' := s.toks) fun b o e => Heap.get?_push_of_some _ e
  have hC : (s.heap.push nilObj).objs.size = s.heap.objs.size + 1 := Heap.size_push _ _
  have cl_sub : ∀ x c, (clOf X.env.cells sc.names []).lookup x = some c → X.env.cells.lookup x = some c := clOf_sub sc.names [] (fun x c e => by cases e)
  have clt : ∀ x c, (clOf X.env.cells sc.names []).lookup x = some c → c < s.heap.objs.size := fun x c e => by
    obtain ⟨v, z⟩ := I.cell x c (cl_sub x c e)
    exact z.lt
  have flt : ∀ b ∈ fp, b < s.heap.objs.size := fun b hb => by
    obtain ⟨o, e⟩ := ho b hb
    exact Heap.lt_size e
  have back : ∀ x, ((relabel sc X.env).names.lookup x = some .cell ∨ (relabel sc X.env).names.lookup x = some .free) → (x, NameKind.free) ∈ sc.names := fun x h => by
    rcases h with h | h
    · rcases relabel_back (env := X.env) (names := sc.names) (show (sc.names.map (rl X.env)).lookup x = _ from h) with e | e
      · exact absurd rfl (S.nocell _ e)
      · exact e
    · rcases relabel_back (env := X.env) (names := sc.names) (show (sc.names.map (rl X.env)).lookup x = _ from h) with e | e
      · exact e
      · exact e
  have has : ∀ x, (x, NameKind.free) ∈ sc.names → ∃ c, (clOf X.env.cells sc.names []).lookup x = some c := fun x e =>
    clOf_has sc.names [] x e (I.ok.has x (.inl (S.frees _ e rfl)))
  refine ⟨⟨I.ok.mod, S.kind, I.ok.glob, I.ok.blt, Nat.le_refl _, fun x y c e1 e2 => I.ok.inj x y c (cl_sub x c e1) (cl_sub y c e2), fun x h => has x (back x h), fun x c h => (by cases h), I.ok.hd, I.ok.frames, .inl rfl, fun b hb => ?_, I3.bs,
    Nat.le_trans I.ok.bsz I3.sz, fun b o e hb => ?_, fun b hb => ?_, I3.stack, I3.stkFree⟩, I.os ▸ rfl, I.bare, Un.kept hk, ⟨m, hns, fun k x v e1 e2 e3 => ?_⟩, fun x c e => ?_, I3.hok.fresh (Nat.le_refl _), fun x c e => I.freeC x c (cl_sub x c e),
    fun p hp => absurd (show p ∈ ([] : List (Addr × Obj)) from hp) (by simp), I3.hok.kept hk, capS_len S.le⟩
  · rcases List.mem_cons.mp hb with e | hb
    · subst e
      exact ⟨by rw [hC]; exact Nat.ne_of_lt (Nat.lt_succ_self _), fun x c e => Nat.ne_of_lt (clt x c e)⟩
    · refine ⟨by rw [hC]; exact Nat.ne_of_lt (Nat.lt_succ_of_lt (flt b hb)), fun x c e => (hf b hb).2.2.2.2.1 x c (cl_sub x c e)⟩
  · rcases List.mem_cons.mp hb with z | hb
    · subst z
      exact absurd (Heap.lt_size (I.bk _ _ e)) (Nat.lt_irrefl _)
    · have e' : X.base.get? b = some o := e
      rw [young_fp I (hf b hb)] at e'; cases e'
  · intro hs
    have hs' := I.stkSub b hs
    rcases List.mem_cons.mp hb with z | hb
    · subst z
      rcases List.mem_cons.mp hs' with e | e
      · exact absurd I.lt (by rw [← e]; exact Nat.lt_irrefl _)
      · exact I.nofs (Nat.le_refl _) e
    · rcases List.mem_cons.mp hs' with e | e
      · exact (hf b hb).2.1 e
      · exact (hf b hb).2.2.1 e
  · obtain ⟨i, h1, h2⟩ := capS_get e2
    obtain ⟨h3, h4⟩ := S.cap k i x h1 e1
    have hfr : (x, NameKind.free) ∈ sc.names := PySem.mem_of_lookup h4
    have hcell : X.env.scope.names.lookup x = some .cell := S.frees _ hfr rfl
    obtain ⟨m', hn', hl'⟩ := I.loc
    obtain ⟨u, r, l⟩ := hl' i x v h3 h2 (.inr (.inl hcell))
    refine ⟨u, r, .inr ⟨.inl (relabel_free I.ok.kind h4 hcell), ?_⟩⟩
    rcases l with ⟨q, _⟩ | ⟨_, c, ec, z⟩
    · have q' : X.env.scope.names.lookup x = some .local := q
      rw [hcell] at q'; cases q'
    · obtain ⟨c', ec'⟩ := has x hfr
      have := cl_sub x c' ec'
      rw [ec] at this; cases this
      exact ⟨c, ec', z.keeps fun b o e => hk b o (Heap.get?_push_of_some _ e)⟩
  · obtain ⟨v, z⟩ := I.cell x c (cl_sub x c e)
    exact ⟨v, z.keeps fun b o e => hk b o (Heap.get?_push_of_some _ e)⟩
/-- the block is left -/
theorem comp_out {σ' : St} {H' : Hp} {s' : Shared} {pl : List (Addr × Obj)} (I : Inv X pins σ H s) (hf : ∀ b ∈ fp, FpOk X pins H b)
    (I' : Inv (cxC X sc N (withAcc s) H (s.heap.objs.size :: fp) (s.heap.push nilObj).objs.size) pl σ' H' s') : Inv X pins σ H' s' := by
  have I3 : Inv X pins σ H (withAcc s) := I.kept (t' := s.toks) fun b o e => Heap.get?_push_of_some _ e
  have fa : FpOk X pins H s.heap.objs.size := I.fpOk (Nat.le_refl _) (I.hok.fresh (Nat.le_refl _))
  refine I3.call' (ch := s.heap.objs.size :: fp) (I'.os.trans rfl) I'.base I'.hok I'.bare fun b hb => ?_
  have q : FpOk X pins H b := by
    rcases List.mem_cons.mp hb with e | hb
    · subst e; exact fa
    · exact hf b hb
  exact ⟨q.2.2.2.1, q.2.1, q.2.2.2.2.1, q.2.2.2.2.2⟩
end

/-! ### the reading -/
abbrev TTs := St → Hp → (Bool → Hp → Prop) → Prop
/-- no test, one test -/
def tYes : TTs := fun _ H Q => Q true H
def PTs (X : Cx) (ifs : List Expr) (t : TTs) : Prop :=
  ∀ (pins : List (Addr × Obj)) (s : Shared) (σ : St) (H : Hp) (Q : Bool → Hp → Prop), Inv X pins σ H s → t σ H Q → wpAny (model X.prog X.w) X.A (tests ifs X.env) (TP X pins σ Q) X.xe s
theorem pts_nil {X : Cx} : PTs X [] tYes := fun _ _ _ H _ I h => tests_nil ⟨H, I, h⟩

/-- the first n slots are as they were -/
def KeepN (n : Nat) (σ σ2 : St) : Prop := σ2.length = σ.length ∧ ∀ i, i < n → σ2[i]? = σ[i]?
/-- W: by the turn, a measure, what is gathered, the heap; σ0: the block's names at each turn's start -/
def CompW (J : It) (g : TG) (tc : TTs) (te : TE) (σ0 : St) (H1 : Hp) (K : List V → Hp → Prop) : Prop :=
  ∃ W : Nat → Nat → List V → Hp → Prop, (∃ m, W 0 m [] H1) ∧ ∀ i m ys H, W i m ys H →
    (J.stop i H ∧ K ys H) ∨
    (J.go i H ∧ ys.length < sizeLine ∧ ∃ N : List V → Hp → Prop, (∀ zs H', N zs H' → ∃ m', m' < m ∧ W (i + 1) m' zs H') ∧
      ∀ x H', J.yld i H x H' → g x σ0 H' fun σ2 H2 => tc σ2 H2 fun b H3 => if b = true then te σ2 H3 (fun y H4 => N (ys ++ [y]) H4) else N ys H3)
def tComp (wi : TI) (g : TG) (tc : TTs) (te : TE) (idx : List Nat) (n : Nat) : TE := fun σ H Q => wi σ H fun J H1 =>
  CompW J g tc te (capS idx n σ) H1 fun ys H2 => ys.length ≤ sizeLine ∧ ∀ p, H2 p = none → Q (.ref p) (upd H2 p (.lst ys))
/-- a target touches its own slots alone -/
def GKeep (n : Nat) (g : TG) : Prop := ∀ x σ H Q, g x σ H Q → g x σ H fun σ2 H2 => Q σ2 H2 ∧ KeepN n σ σ2
theorem keep_set {n k : Nat} {σ : St} {v : Option V} (h : n ≤ k) : KeepN n σ (σ.set k v) := ⟨List.length_set, fun i hi => List.getElem?_set_ne (by omega)⟩
theorem gkeep_name {n k : Nat} (h : n ≤ k) : GKeep n (gName k) := fun x σ H Q q => ⟨q, keep_set h⟩
theorem gkeep_pair {K : PySem.W.Frag} {n k l : Nat} (h : n ≤ k) (h' : n ≤ l) : GKeep n (gTup K 2 (gCons (gName k) (gCons (gName l) gNil))) := fun x σ H Q q => by
  obtain ⟨a, xs, e1, e2, e3, v, r, e4, v', r', e5, e6, q⟩ := q
  refine ⟨a, xs, e1, e2, e3, v, r, e4, v', r', e5, e6, q, ?_⟩
  have k1 : KeepN n σ (σ.set k (some v)) := keep_set h
  have k2 : KeepN n (σ.set k (some v)) ((σ.set k (some v)).set l (some v')) := keep_set h'
  exact ⟨k2.1.trans k1.1, fun i hi => (k2.2 i hi).trans (k1.2 i hi)⟩
theorem weak_cap {X : Cx} {pins : List (Addr × Obj)} {σ σ2 : St} {H : Hp} {s : Shared} {idx : List Nat} {n : Nat} (I : Inv X pins σ2 H s) (k : KeepN idx.length (capS idx n σ) σ2) : Inv X pins (capS idx n σ) H s :=
  I.weak k.1.symm fun i v e => by
    obtain ⟨j, h1, _⟩ := capS_get e
    rw [k.2 i (List.getElem?_eq_some_iff.mp h1).1]
    exact e
/-- the usual form: n turns, P between them -/
theorem compW_of {J : It} {g : TG} {tc : TTs} {te : TE} {σ0 : St} {H1 : Hp} {K : List V → Hp → Prop} {n : Nat} (P : Nat → List V → Hp → Prop) (hn : n ≤ sizeLine) (h0 : P 0 [] H1) (hle : ∀ i ys H, P i ys H → ys.length ≤ i)
    (hgo : ∀ i ys H, i < n → P i ys H → J.go i H) (hst : ∀ ys H, P n ys H → J.stop n H)
    (hs : ∀ i ys H, i < n → P i ys H → ∀ x H', J.yld i H x H' → g x σ0 H' fun σ2 H2 => tc σ2 H2 fun b H3 => if b = true then te σ2 H3 (fun y H4 => P (i + 1) (ys ++ [y]) H4) else P (i + 1) ys H3)
    (hd : ∀ ys H, P n ys H → K ys H) : CompW J g tc te σ0 H1 K := by
  refine ⟨fun i m ys H => m = n - i ∧ i ≤ n ∧ P i ys H, ⟨n, by simp, Nat.zero_le _, h0⟩, ?_⟩
  rintro i m ys H ⟨rfl, hi, p⟩
  by_cases hlt : i < n
  · refine .inr ⟨hgo i ys H hlt p, by have := hle i ys H p; omega, P (i + 1), fun zs H' p' => ⟨n - (i + 1), by omega, rfl, hlt, p'⟩, hs i ys H hlt p⟩
  · have e : i = n := by omega
    subst e
    exact .inl ⟨hst ys H p, hd ys H p⟩

section
variable {X : Cx} {tg elt iter : Expr} {ifs : List Expr} {wi : TI} {g : TG} {tc : TTs} {te : TE} {sc : Scope} {N : List Str} {idx : List Nat} {pos : Pos}
/-- the block run: at its end the list gathered stands at the address ahead of the frame -/
theorem comp_run {pins : List (Addr × Obj)} {s : Shared} {σ : St} {H : Hp} {K : List V → Hp → Prop} {E : Value → Shared → Prop} {RR : Addr → Value → Result → Shared → Prop} (hc : X.calm = true) (S : ScC X sc N idx) (gk : GKeep idx.length g)
    (hg : ∀ s H ex C, PG (cxC X sc N s H ex C) tg g) (ht : ∀ s H ex C, PTs (cxC X sc N s H ex C) ifs tc) (he : ∀ s H ex C, PE (cxC X sc N s H ex C) elt te)
    {it : Addr} {fp : List Addr} {tn : Nat → Heap → Prop} {J : It} (I : Inv X pins σ H s) (T : Turn X.prog X.w X.K tg J fp it tn) (st : tn 0 s.heap) (hf : ∀ b ∈ fp, FpOk X pins H b) (hW : CompW J g tc te (capS idx N.length σ) H K)
    (hR : ∀ (s' : Shared) (ys : List V) (H' : Hp) (m : Str → Option Value) (its : List Value) (n : Nat), K ys H' → Inv X pins σ H' s' → s'.heap.Ns (s.heap.push nilObj).objs.size m → H' (s.heap.push nilObj).objs.size = none → H' s.heap.objs.size = none → Vals ys its →
      s'.heap.get? s.heap.objs.size = some { cls := .type "list", data := .seq its.toArray n } → RR (s.heap.push nilObj).objs.size (.ref s.heap.objs.size) (.ok .next) s') :
    wpAny (model X.prog X.w) X.A (newList []) (fun acc s₃ => wpAny (model X.prog X.w) X.A (newFunctionEnv sc X.env.globals (clOf X.env.cells sc.names []) [] X.env.qual none .none (some X.env)) (fun cenv s₄ =>
      codeAny (model X.prog X.w) X.A (.compStart (.ListComp elt [⟨tg, iter, ifs, 0⟩] sc pos) 0 (.ref it) acc { cenv with scope := relabel sc X.env }) (RR cenv.locals acc) s₄) E s₃) E s := by
  obtain ⟨W, ⟨m0, w0⟩, turn⟩ := hW
  refine wpAny_newObj_type (wpAny_newFunctionEnv S.nocell (by intro y hy; cases hy) (fun h' hns hsb => ?_) S.kind)
  have hC : (s.heap.push nilObj).objs.size = s.heap.objs.size + 1 := Heap.size_push _ _
  have hk : ∀ b o, (s.heap.push nilObj).get? b = some o → h'.get? b = some o := fun b o e => (hsb.2 b (Nat.ne_of_lt (Heap.lt_size e))).trans (Heap.get?_push_of_some _ e)
  have ho : ∀ b ∈ fp, ∃ o, s.heap.get? b = some o := fun b hb => let ⟨o, e, _⟩ := T.obj _ _ st b hb; ⟨o, e⟩
  have I0 := comp_inv (t := s.toks + ([] : List (Str × Value)).length) I S hf ho hns hk
  have fn : ∀ b ∈ fp, b ≠ s.heap.objs.size := fun b hb => by
    obtain ⟨o, e⟩ := ho b hb
    exact Nat.ne_of_lt (Heap.lt_size e)
  have accN : H s.heap.objs.size = none := I.hok.fresh (Nat.le_refl _)
  -- an iterator's record in the block's eyes
  have fpC : ∀ {H' : Hp} {pl : List (Addr × Obj)}, (∀ b ∈ fp, H' b = none) → (∀ p ∈ pl, p.1 = s.heap.objs.size) → ∀ b ∈ fp, FpOk (cxC X sc N (withAcc s) H (s.heap.objs.size :: fp) (s.heap.push nilObj).objs.size) pl H' b := fun {H' pl} hn hp b hb => by
    refine ⟨hn b hb, (I0.ok.exf b (List.mem_cons_of_mem _ hb)).1, I0.ok.exfs b (List.mem_cons_of_mem _ hb), .inl (List.mem_cons_of_mem _ hb), (I0.ok.exf b (List.mem_cons_of_mem _ hb)).2, fun p hq => ?_⟩
    have hq' : p ∈ pl := by simpa [cxC] using hq
    rw [hp p hq']
    exact Ne.symm (fn b hb)
  have loop : codeAny (model X.prog X.w) X.A (.compLoop (.ListComp elt [⟨tg, iter, ifs, 0⟩] sc pos) 0 (.ref it) (.ref s.heap.objs.size) (compEnvC sc (clOf X.env.cells sc.names []) (s.heap.push nilObj).objs.size X.env))
      (RR (s.heap.push nilObj).objs.size (.ref s.heap.objs.size)) { withAcc s with heap := h', toks := s.toks + ([] : List (Str × Value)).length } := by
    refine comp_loop (EE := fun _ _ => False) (fun n s' => ∃ i ys H' its k, Inv (cxC X sc N (withAcc s) H (s.heap.objs.size :: fp) (s.heap.push nilObj).objs.size) [] (capS idx N.length σ) H' s' ∧ tn i s'.heap ∧ (∀ b ∈ fp, H' b = none) ∧ H' s.heap.objs.size = none ∧
      Vals ys its ∧ s'.heap.get? s.heap.objs.size = some { cls := .type "list", data := .seq its.toArray k } ∧ W i n ys H') (fun _ _ z => z.elim) ?_ m0 ?_
    · rintro n s3 ⟨i, ys, H3, its, kk, I3, st3, fr3, an3, rv3, ac3, w3⟩
      have accC : ∀ {H' : Hp}, H' s.heap.objs.size = none → FpOk (cxC X sc N (withAcc s) H (s.heap.objs.size :: fp) (s.heap.push nilObj).objs.size) [] H' s.heap.objs.size := fun {H'} hn =>
        ⟨hn, (I0.ok.exf _ List.mem_cons_self).1, I0.ok.exfs _ List.mem_cons_self, .inl List.mem_cons_self, (I0.ok.exf _ List.mem_cons_self).2, fun p hq => absurd (show p ∈ ([] : List (Addr × Obj)) from hq) (by simp)⟩
      have P3 : Inv (cxC X sc N (withAcc s) H (s.heap.objs.size :: fp) (s.heap.push nilObj).objs.size) [(s.heap.objs.size, { cls := .type "list", data := .seq its.toArray kk })] (capS idx N.length σ) H3 s3 := I3.pins_of fun p hp => by
        have e : p = (s.heap.objs.size, { cls := .type "list", data := .seq its.toArray kk }) := by simpa using hp
        subst e
        exact ⟨ac3, an3, (accC an3).2.1, (accC an3).2.2.1, fun v z => by cases z⟩
      have one : ∀ p ∈ [((s.heap.objs.size, { cls := .type "list", data := .seq its.toArray kk }) : Addr × Obj)], p.1 = s.heap.objs.size := fun p hp => by
        have e : p = (s.heap.objs.size, { cls := .type "list", data := .seq its.toArray kk }) := by simpa using hp
        rw [e]
      rcases turn i n ys H3 w3 with ⟨stop, kq⟩ | ⟨go, hz, NN, hNN, step⟩
      · refine thn (T.done (cxC X sc N (withAcc s) H (s.heap.objs.size :: fp) (s.heap.push nilObj).objs.size) rfl rfl rfl hc i _ s3 _ H3 _ P3 (fpC fr3 one) st3 stop) fun r s4 ⟨hr, I4⟩ => ⟨fun _ => ?_, fun v e => (by rw [hr] at e; cases e)⟩
        obtain ⟨m', hn', _⟩ := I4.loc
        exact hR s4 ys H3 m' its kk kq (comp_out I hf I4) hn' I4.free an3 rv3 (I4.pin _ (List.mem_append_right _ List.mem_cons_self)).1
      · refine thn (T.item (cxC X sc N (withAcc s) H (s.heap.objs.size :: fp) (s.heap.push nilObj).objs.size) rfl rfl rfl hc i _ s3 _ H3 _ P3 (fpC fr3 one) st3 go) fun r s4 ⟨u, hr, h4⟩ => ⟨fun e => (by rw [hr] at e; cases e), fun v e => ?_⟩
        rw [hr] at e
        cases e
        refine thn h4 fun _ s5 hh => ?_
        obtain ⟨x, H5, I5, r5, y5, st5, fr5⟩ := hh
        have I5' := I5.pinned (fpC fr5 one) (T.obj _ _ st5)
        refine thn (hg _ _ _ _ _ s5 _ H5 x u _ I5' r5 (gk _ _ _ _ (step x H5 y5))) fun _ s6 ⟨σ6, H6, I6, q6, k6⟩ => ?_
        refine thn (ht _ _ _ _ _ s6 σ6 H6 _ I6 q6) fun ok s7 ⟨H7, I7, q7⟩ => ⟨fun e => ?_, fun e => ?_⟩
        · subst e
          rw [if_pos rfl] at q7
          refine thn (he _ _ _ _ _ s7 σ6 H7 _ I7 q7) fun v s8 ⟨y, H8, I8, r8, n8⟩ => ?_
          obtain ⟨m', hm, w8⟩ := hNN _ _ n8
          have pa := I8.pin (s.heap.objs.size, { cls := .type "list", data := .seq its.toArray kk }) (List.mem_append_right _ (List.mem_append_left _ List.mem_cons_self))
          have hlen := rv3.length
          refine wpAny_list_append_plain (items := its.toArray) ⟨kk, pa.1⟩ (fun h9 pl9 sb9 => ?_) (by rw [List.size_toArray]; omega)
          have I8' : Inv (cxC X sc N (withAcc s) H (s.heap.objs.size :: fp) (s.heap.push nilObj).objs.size) (pinsAt fp s5.heap) σ6 H8 s8 := I8.pins_of fun p hp => I8.pin p (List.mem_append_right _ (List.mem_append_right _ hp))
          have I9 := I8'.turned (h' := h9) (t' := s8.toks) (it := s.heap.objs.size) (fun b o hb e => (sb9.2 b hb).trans e) pa.2.1 (accC pa.2.1).2.1 (.inl List.mem_cons_self) (accC pa.2.1).2.2.2.2.1 (fun p hp => by
            have hp' : p ∈ pinsAt fp s5.heap := by simpa [cxC] using hp
            exact fn p.1 (of_pinsAt hp').1)
          obtain ⟨k9, e9⟩ := pl9
          refine ⟨m', hm, i + 1, ys ++ [y], H8, its ++ [v], k9, weak_cap (I9.pins_of (fun p hp => absurd hp (by simp))) k6, T.keep _ _ _ st5 fun b hb o e => ?_, fun b hb => ?_, pa.2.1, rv3.append (.cons r8 .nil), ?_, w8⟩
          · have q := (I8'.pin (b, o) (List.mem_append_right _ (mem_pinsAt hb e))).1
            exact (sb9.2 b (fn b hb)).trans q
          · obtain ⟨o, e, _⟩ := T.obj _ _ st5 b hb
            exact (I8'.pin (b, o) (List.mem_append_right _ (mem_pinsAt hb e))).2.1
          · rw [e9]
            simp
        · subst e
          rw [if_neg Bool.false_ne_true] at q7
          obtain ⟨m', hm, w7⟩ := hNN _ _ q7
          have pa := I7.pin (s.heap.objs.size, { cls := .type "list", data := .seq its.toArray kk }) (List.mem_append_right _ (List.mem_append_left _ List.mem_cons_self))
          refine ⟨m', hm, i + 1, ys, H7, its, kk, weak_cap (I7.pins_of (fun p hp => absurd hp (by simp))) k6, T.keep _ _ _ st5 fun b hb o e => ?_, fun b hb => ?_, pa.2.1, rv3, pa.1, w7⟩
          · exact (I7.pin (b, o) (List.mem_append_right _ (List.mem_append_right _ (mem_pinsAt hb e)))).1
          · obtain ⟨o, e, _⟩ := T.obj _ _ st5 b hb
            exact (I7.pin (b, o) (List.mem_append_right _ (List.mem_append_right _ (mem_pinsAt hb e)))).2.1
    · exact ⟨0, [], H, [], 0, I0, T.keep _ _ _ st fun b hb o e => hk b o (Heap.get?_push_of_some _ e), fun b hb => (hf b hb).1, accN, .nil, hk _ _ (Heap.get?_push_size _ rfl), w0⟩
  exact codeAny_compStart_list loop (T.self _ 0 _ _ _ (T.keep _ _ _ st fun b hb o e => hk b o (Heap.get?_push_of_some _ e)) loop)
/-- [elt for tg in iter if ..] -/
theorem pe_comp (hc : X.calm = true) (S : ScC X sc N idx) (gk : GKeep idx.length g) (hi : PI X tg iter wi)
    (hg : ∀ s H ex C, PG (cxC X sc N s H ex C) tg g) (ht : ∀ s H ex C, PTs (cxC X sc N s H ex C) ifs tc) (he : ∀ s H ex C, PE (cxC X sc N s H ex C) elt te)
    (hs : ∀ x, foldedSetIterable iter X.env x = pure x := by intro _; rfl) : PE X (.ListComp elt [⟨tg, iter, ifs, 0⟩] sc pos) (tComp wi g tc te idx N.length) := by
  intro pins s σ H Q I h
  rw [eval_ListComp]
  have hcl : closureFor sc X.env = pure (clOf X.env.cells sc.names []) := closure_of fun p hp e => I.ok.has p.1 (.inl (S.frees p hp e))
  refine wpAny_comprehension_free (use := none) rfl hs hcl S.kind S.locs (thn (hi pins s σ H _ I h) fun v s1 h1 => thn h1 fun itv s2 h2 => ?_)
  obtain ⟨it, fp, tn, J, H2, e, I2, T, st2, f2, hW⟩ := h2
  subst e
  refine comp_run (RR := fun C acc => compPost (model X.prog X.w) X.A X.xe none (EP X pins σ Q) acc C) hc S gk hg ht he I2 T st2 f2 hW fun s' ys H' m its n kq I' hns hCn hAn rv ea => ?_
  have hC : (s2.heap.push nilObj).objs.size = s2.heap.objs.size + 1 := Heap.size_push _ _
  have fa : FpOk X pins H2 s2.heap.objs.size := I2.fpOk (Nat.le_refl _) (I2.hok.fresh (Nat.le_refl _))
  have fC : FpOk X pins H2 (s2.heap.push nilObj).objs.size := I2.fpOk (by rw [hC]; exact Nat.le_succ _) (I2.hok.fresh (by rw [hC]; exact Nat.le_succ _))
  have ya : X.s₀.heap.objs.size ≤ s2.heap.objs.size := I2.sz
  have I1 := Inv.adopt (o := .lst ys) I' hAn ya fa.2.1 fa.2.2.2.2.1 fa.2.2.2.2.2 ⟨kq.1, its, n, rv, ea⟩
  refine ⟨m, hns, fun h' sb => ⟨.ref s2.heap.objs.size, _, I1.turned (h' := h') (t' := s'.toks) (it := (s2.heap.push nilObj).objs.size) (fun b o hb e => (sb.2 b hb).trans e) ?_ fC.2.1 (.inr (by rw [hC]; exact Nat.le_succ_of_le ya)) fC.2.2.2.2.1 fC.2.2.2.2.2, rfl, kq.2 _ hAn⟩⟩
  rw [upd_ne (by rw [hC]; exact Nat.succ_ne_self _)]
  exact hCn
/-- x = [elt for tg in iter if ..], x a plain local name: stored ahead of the block's end -/
theorem ps_setComp {i : Nat} {x : Str} {pos' spos : Pos} (hN : X.N.Nodup) (hx : X.N[i]? = some x) (hl : X.env.scope.names.lookup x = some .local) (hc : X.calm = true) (S : ScC X sc N idx) (gk : GKeep idx.length g) (hi : PI X tg iter wi)
    (hg : ∀ s H ex C, PG (cxC X sc N s H ex C) tg g) (ht : ∀ s H ex C, PTs (cxC X sc N s H ex C) ifs tc) (he : ∀ s H ex C, PE (cxC X sc N s H ex C) elt te)
    (hsw : swapsWith (.ListComp elt [⟨tg, iter, ifs, 0⟩] sc pos) (some (.Name x pos')) spos.line X.env = pure true := by rfl)
    (hs : ∀ x, foldedSetIterable iter X.env x = pure x := by intro _; rfl) : PS X (.Assign [.Name x pos'] (.ListComp elt [⟨tg, iter, ifs, 0⟩] sc pos) spos) (tAsg (tComp wi g tc te idx N.length) (gName i)) := by
  intro pins s σ H D I h
  rw [exec_Assign_Name_used _ _ _ _ hsw]
  refine wpAny_bind (wpAny_standAt (wpAny_bind ?_))
  have hcl : closureFor sc X.env = pure (clOf X.env.cells sc.names []) := closure_of fun p hp e => I.ok.has p.1 (.inl (S.frees p hp e))
  show wpAny _ X.A (do let _ ← comprehension (.ListComp elt [⟨tg, iter, ifs, 0⟩] sc pos) sc X.env _ (newList []) false (eval iter X.env) (some (assign (.Name x pos') X.env))) _ _ s
  refine wpAny_bind (wpAny_mono (wpAny_comprehension_free (use := some (assign (.Name x pos') X.env)) (Q := fun _ s' => SP X pins D .next s') rfl hs hcl S.kind S.locs
    (thn (hi pins s σ H _ I h) fun v s1 h1 => thn h1 fun itv s2 h2 => ?_)) (fun _ s' q => wpAny_pure (wpAny_pure q)) fun _ _ q => q)
  obtain ⟨it, fp, tn, J, H2, e, I2, T, st2, f2, hW⟩ := h2
  subst e
  refine comp_run (RR := fun C acc => compPost (model X.prog X.w) X.A X.xe (some (assign (.Name x pos') X.env)) (fun _ s' => SP X pins D .next s') acc C) hc S gk hg ht he I2 T st2 f2 hW fun s' ys H' m its n kq I' hns hCn hAn rv ea => ?_
  have hC : (s2.heap.push nilObj).objs.size = s2.heap.objs.size + 1 := Heap.size_push _ _
  have fa : FpOk X pins H2 s2.heap.objs.size := I2.fpOk (Nat.le_refl _) (I2.hok.fresh (Nat.le_refl _))
  have fC : FpOk X pins H2 (s2.heap.push nilObj).objs.size := I2.fpOk (by rw [hC]; exact Nat.le_succ _) (I2.hok.fresh (by rw [hC]; exact Nat.le_succ _))
  have ya : X.s₀.heap.objs.size ≤ s2.heap.objs.size := I2.sz
  have I1 := Inv.adopt (o := .lst ys) I' hAn ya fa.2.1 fa.2.2.2.2.1 fa.2.2.2.2.2 ⟨kq.1, its, n, rv, ea⟩
  have hCn' : upd H' s2.heap.objs.size (.lst ys) (s2.heap.push nilObj).objs.size = none := by
    rw [upd_ne (by rw [hC]; exact Nat.succ_ne_self _)]
    exact hCn
  show wpAny (model X.prog X.w) X.A (assign (.Name x pos') X.env (.ref s2.heap.objs.size)) _ X.xe s'
  refine wpAny_assign_Name (store_ok2 (v := .ref s2.heap.objs.size) I1 hN hx (.inl hl) rfl (fun s3 I3 ⟨a, sb, ha⟩ => ?_) (.inr hl))
  have aC : (s2.heap.push nilObj).objs.size ≠ a := by
    rcases ha with e | e
    · rw [e]; exact fC.2.1
    · exact Ne.symm (fC.2.2.2.2.1 x a e)
  refine ⟨m, hns.sameBut sb aC, fun h' sb' => ⟨_, _, I3.turned (h' := h') (t' := s3.toks) (it := (s2.heap.push nilObj).objs.size) (fun b o hb e => (sb'.2 b hb).trans e) hCn' fC.2.1 (.inr (by rw [hC]; exact Nat.le_succ_of_le ya)) fC.2.2.2.2.1 fC.2.2.2.2.2, kq.2 _ hAn⟩⟩
end
end L2

namespace L2
open PySem PySem.Spec PyProof.Rows L3

/-! ### several records turned at once -/
theorem Inv.turnedL {X : Cx} {pins : List (Addr × Obj)} {σ : St} {H : Hp} {s : Shared} {h' : Heap} {t' : Nat} {ch : List Addr} (I : Inv X pins σ H s) (k : ∀ b o, b ∉ ch → s.heap.get? b = some o → h'.get? b = some o)
    (hc : ∀ b ∈ ch, FpOk X pins H b) : Inv X pins σ H { s with heap := h', toks := t' } := by
  have nch : ∀ b u, H b = some u → b ∉ ch := fun b u e z => by rw [(hc b z).1] at e; cases e
  refine I.step (g' := s.gens) (d' := s.drawn) (ch := ch) (fun b hb => ⟨(hc b hb).2.2.2.1, (hc b hb).2.1, (hc b hb).2.2.2.2.1, (hc b hb).2.2.2.2.2⟩) (fun b o _ _ z e _ => k b o z e) (fun b o _ _ z e _ => ⟨o.slots, k b o z e⟩) (fun _ _ _ _ n => n)
    (fun b o z e => ⟨o, k b o z e⟩) (fun _ _ e => e) (fun _ _ _ e => e) (fun b ps e => ⟨#[], by rw [e]; simp⟩) (fun m hm => ?_) (fun b u e => ?_) I.bare
  · obtain ⟨o, es, ep, ho, r⟩ := hm
    exact ⟨o, es, ep, k _ o (fun z => (hc _ z).2.1 rfl) ho, r⟩
  · refine (I.hok b u e).stay (fun c v hq q => k c v ?_ q) (fun _ q => q) fun _ _ q => q
    rcases hq with z | z
    · rw [z]; exact nch b u e
    · exact nch c _ z

/-! ### a list or a tuple, by one word -/
def Sq (b : Bool) (K : PySem.W.Frag) (H : Hp) (a : Addr) (xs : List V) : Prop := if b = true then SqL K H a xs else SqT K H a xs
theorem sq_is {X : Cx} {pins : List (Addr × Obj)} {σ : St} {H : Hp} {s : Shared} {b : Bool} {a : Addr} {xs : List V} (I : Inv X pins σ H s) (h : Sq b X.K H a xs) : ∃ its : List Value, Vals xs its ∧ SeqIs b s.heap a its.toArray ∧ xs.length ≤ sizeLine := by
  cases b with
  | true =>
    obtain ⟨its, r, p, z⟩ := I.list h
    exact ⟨its, r, p.isList, z⟩
  | false =>
    obtain ⟨its, r, p, z⟩ := I.tuple h
    exact ⟨its, r, p, z⟩
theorem sq_inj {X : Cx} {pins : List (Addr × Obj)} {σ : St} {H : Hp} {s : Shared} {b : Bool} {a : Addr} {xs ys : List V} (I : Inv X pins σ H s) (h : Sq b X.K H a xs) (h' : Sq b X.K H a ys) : xs = ys := by
  cases b with
  | true => exact I.list_inj h h'
  | false => exact I.tuple_inj h h'
theorem sq_lt {X : Cx} {pins : List (Addr × Obj)} {σ : St} {H : Hp} {s : Shared} {b : Bool} {a : Addr} {xs : List V} (I : Inv X pins σ H s) (h : Sq b X.K H a xs) : a < s.heap.objs.size := by
  obtain ⟨its, r, p, z⟩ := sq_is I h
  cases b with
  | true => obtain ⟨o, e, _⟩ := (show s.heap.IsList a its.toArray from p); exact Heap.lt_size e
  | false => obtain ⟨o, e, _⟩ := (show s.heap.IsTuple a its.toArray from p); exact Heap.lt_size e

/-! ### zip of two of them, walked into a pair of names -/
def Itz (b1 b2 : Bool) (K : PySem.W.Frag) (l1 l2 : Addr) : It :=
  ⟨fun i H => ∃ xs ys x y, Sq b1 K H l1 xs ∧ Sq b2 K H l2 ys ∧ xs[i]? = some x ∧ ys[i]? = some y,
   fun i H v H' => ∃ p x y, H p = none ∧ v = .ref p ∧ H' = upd H p (.tup [x, y]) ∧ ∀ xs ys, Sq b1 K H l1 xs → Sq b2 K H l2 ys → xs[i]? = some x ∧ ys[i]? = some y,
   fun i H => ∃ xs ys, Sq b1 K H l1 xs ∧ Sq b2 K H l2 ys ∧ (xs.length ≤ i ∨ ys.length ≤ i)⟩
theorem seqIt_data {b : Bool} {h : Heap} {it l : Addr} {i : Nat} (x : SeqIt b h it l i) : ∃ o, h.get? it = some o ∧ ∀ v, o.data ≠ .cell v := by
  obtain ⟨o, vs, e, d⟩ := x.obj
  exact ⟨o, e, fun v z => by rw [d] at z; cases z⟩
theorem turn_zip {P : Program} {w : World} {K : PySem.W.Frag} {es : List Expr} {x1 : Nat} {pos : Pos} {b1 b2 : Bool} {z TI TO i1 i2 l1 l2 : Addr} (D : ZipApart z TI TO i1 i2 l1 l2) :
    Turn P w K (.Tuple es x1 pos) (Itz b1 b2 K l1 l2) [z, TI, TO, i1, i2] z (fun i h => IsZip h z TI TO .none ∧ IsPair h TI (.ref i1) (.ref i2) ∧ (∃ a b, IsPair h TO a b) ∧ SeqIt b1 h i1 l1 i ∧ SeqIt b2 h i2 l2 i) where
  mem := by simp
  obj := fun i h ⟨a1, a2, ⟨a, b, a3⟩, a4, a5⟩ c hc => by
    simp only [List.mem_cons, List.mem_nil_iff, or_false] at hc
    rcases hc with rfl | rfl | rfl | rfl | rfl
    · exact ⟨_, a1, fun v z => by cases z⟩
    · exact ⟨_, a2, fun v z => by cases z⟩
    · exact ⟨_, a3, fun v z => by cases z⟩
    · exact seqIt_data a4
    · exact seqIt_data a5
  keep := fun i h h' ⟨a1, a2, ⟨a, b, a3⟩, a4, a5⟩ k => ⟨k z (by simp) _ a1, k TI (by simp) _ a2, ⟨a, b, k TO (by simp) _ a3⟩, a4.at fun o e => k i1 (by simp) o e, a5.at fun o e => k i2 (by simp) o e⟩
  item := by
    intro X hP hw hK hc i pins s σ H E I hf ⟨a1, a2, ⟨a, b, a3⟩, a4, a5⟩ hg
    subst hP hw hK
    obtain ⟨xs, ys, x, y, q1, q2, hx, hy⟩ := hg
    obtain ⟨vs1, r1, m1, _⟩ := sq_is I q1
    obtain ⟨vs2, r2, m2, _⟩ := sq_is I q2
    obtain ⟨u, hu, ru⟩ := r1.get hx
    obtain ⟨v, hv, rv⟩ := r2.get hy
    refine zip_item D a1 a2 a3 a4 a5 m1 m2 (x := u) (y := v) (by simpa using hu) (by simpa using hv) fun h' c1 c2 c3 c4 c5 kk => ?_
    have hp : H s.heap.objs.size = none := I.hok.fresh (Nat.le_refl _)
    have lts : ∀ c ∈ [z, TI, TO, i1, i2], c < s.heap.objs.size := fun c hc => by
      simp only [List.mem_cons, List.mem_nil_iff, or_false] at hc
      rcases hc with rfl | rfl | rfl | rfl | rfl
      · exact Heap.lt_size a1
      · exact Heap.lt_size a2
      · exact Heap.lt_size a3
      · obtain ⟨o, e, _⟩ := seqIt_data a4; exact Heap.lt_size e
      · obtain ⟨o, e, _⟩ := seqIt_data a5; exact Heap.lt_size e
    refine ⟨_, rfl, wpAny_letOwnedTupleGo_zip c1 fun h'' d1 sb => ?_⟩
    have sz : ∀ c ∈ [z, TI, TO, i1, i2], c ≠ s.heap.objs.size := fun c hc => Nat.ne_of_lt (lts c hc)
    have k2 : ∀ c o, c ∉ [z, TO, i1, i2] → s.heap.get? c = some o → h''.get? c = some o := fun c o hc e => by
      simp only [List.mem_cons, List.mem_nil_iff, or_false, not_or] at hc
      exact (sb.2 c hc.1).trans (kk c o hc.1 hc.2.1 hc.2.2.1 hc.2.2.2 e)
    have fz : ∀ c ∈ [z, TO, i1, i2], FpOk X pins H c := fun c hc => hf c (by
      simp only [List.mem_cons, List.mem_nil_iff, or_false] at hc ⊢
      rcases hc with rfl | rfl | rfl | rfl <;> simp)
    have I1 : Inv X pins σ H { s with heap := h'' } := Inv.turnedL (t' := s.toks) I k2 fz
    have pT : IsPair h'' s.heap.objs.size u v := (sb.2 _ (Ne.symm (sz z (by simp)))).trans c5
    have fT : FpOk X pins H s.heap.objs.size := I.fpOk (Nat.le_refl _) hp
    have I2 : Inv X pins σ (upd H s.heap.objs.size (.tup [x, y])) { s with heap := h'' } := Inv.adopt I1 hp I.sz fT.2.1 fT.2.2.2.2.1 fT.2.2.2.2.2 ⟨by show 2 ≤ sizeLine; decide, [u, v], .cons ru (.cons rv .nil), ⟨_, pT, rfl, _, rfl⟩⟩
    refine ⟨.ref s.heap.objs.size, _, I2, rfl, ⟨_, x, y, hp, rfl, rfl, fun xs' ys' p1 p2 => ⟨by rw [sq_inj I p1 q1]; exact hx, by rw [sq_inj I p2 q2]; exact hy⟩⟩, ⟨d1, (sb.2 _ D.TIz).trans (kk _ _ D.TIz D.TITO D.TIi1 D.TIi2 a2), ⟨u, v, (sb.2 _ D.TOz).trans c2⟩,
      c3.at fun o e => (sb.2 _ D.i1z).trans e, c4.at fun o e => (sb.2 _ D.i2z).trans e⟩, fun c hc => ?_⟩
    rw [upd_ne (sz c hc)]
    exact (hf c hc).1
  done := by
    intro X hP hw hK hc i pins s σ H E I hf ⟨a1, a2, ⟨a, b, a3⟩, a4, a5⟩ hg
    subst hP hw hK
    obtain ⟨xs, ys, q1, q2, hend⟩ := hg
    obtain ⟨vs1, r1, m1, _⟩ := sq_is I q1
    obtain ⟨vs2, r2, m2, _⟩ := sq_is I q2
    have l1' := r1.length
    have l2' := r2.length
    refine zip_end (I.ok.hd hc) D a1 a2 a3 a4 a5 m1 m2 (by rcases hend with q | q; exact .inl (by simp; omega); exact .inr (by simp; omega)) fun h' kk => ⟨rfl, ?_⟩
    refine Inv.turnedL (t' := s.toks) (ch := [z, TO, i1, i2]) I (fun c o hc e => ?_) fun c hc => hf c (by
      simp only [List.mem_cons, List.mem_nil_iff, or_false] at hc ⊢
      rcases hc with rfl | rfl | rfl | rfl <;> simp)
    simp only [List.mem_cons, List.mem_nil_iff, or_false, not_or] at hc
    exact kk c o hc.1 hc.2.1 hc.2.2.1 hc.2.2.2 e
  self := fun _ _ _ _ _ st h => wpAny_pyIter_zip st.1 h
section
variable {X : Cx} {pos : Pos}
/-- the two sources of zip(a, b), evaluated -/
def iZip (b1 b2 : Bool) (K : PySem.W.Frag) (ta : TA) : TI := fun σ H R => ta σ H fun vs H1 => ∃ l1 l2 xs ys, vs = [.ref l1, .ref l2] ∧ Sq b1 K H1 l1 xs ∧ Sq b2 K H1 l2 ys ∧ R (Itz b1 b2 K l1 l2) H1
theorem pi_zip {b1 b2 : Bool} {a b : Expr} {ta : TA} {p : Pos} {es : List Expr} {x1 : Nat} {tpos : Pos} (hg : Gl X "zip") (hm : X.mg "zip" = none) (ha : PA X [a, b] ta)
    (hs : starEach [a, b] X.env = [(false, eval a X.env), (false, eval b X.env)] := by rfl) (hs2 : starEach [b] X.env = [(false, eval b X.env)] := by rfl) : PI X (.Tuple es x1 tpos) (.Call (.Name "zip" p) [a, b] [] pos) (iZip b1 b2 X.K ta) := by
  intro pins s σ H R I h
  refine Call_ (ld_blt I hg hm boot_zip (PyProof.Rows.callWith_type1 (thn (ha pos pins s σ H _ I h) fun us s1 ⟨vs, H1, I1, r1, q1⟩ => ?_) (by rw [hs, hs2]) (by rw [hs2]; rfl)))
  obtain ⟨l1, l2, xs, ys, e, q1, q2, q⟩ := q1
  subst e
  cases r1 with
  | cons r rr =>
    cases rr with
    | cons r' rr =>
      cases rr
      cases r
      cases r'
      obtain ⟨vs1, _, m1, _⟩ := sq_is I1 q1
      obtain ⟨vs2, _, m2, _⟩ := sq_is I1 q2
      have n1 := sq_lt I1 q1
      have n2 := sq_lt I1 q2
      refine zip_call m1 m2 fun h' c1 c2 c3 c4 c5 kk => wpAny_pyIter_zip c1 ?_
      refine ⟨_, _, _, _, H1, rfl, I1.kept (t' := s1.toks) kk, turn_zip (D := zipApart_new n1 n2), ⟨c1, c2, ⟨_, _, c3⟩, c4, c5⟩, fun c hc => ?_, q⟩
      have hc' : s1.heap.objs.size ≤ c := by
        simp only [List.mem_cons, List.mem_nil_iff, or_false] at hc
        rcases hc with rfl | rfl | rfl | rfl | rfl <;> omega
      exact I1.fpOk hc' (I1.hok.fresh hc')

/-! ### enumerate, walked into a pair of names -/
end
section
variable {X : Cx} {pos : Pos}
end
end L2

namespace L2
open PySem PySem.Spec PyProof.Rows PySem.SeqAt L3

/-! ### isinstance -/
/-- a class as a value -/
def clsV : V → Option Value
  | .ty n => some (.type n)
  | .ref a => some (.ref a)
  | _ => none
theorem clsV_rel {c : V} {cv u : Value} (h : clsV c = some cv) (r : RelV c u) : u = cv := by
  cases c with
  | ty n => cases h; exact r
  | ref a => cases h; exact r
  | _ => cases h
def rIsi (K : PySem.W.Frag) : List V → Hp → VK → Prop := fun xs H Q => ∃ x c t cv b, xs = [x, c] ∧ TyOf K H x t ∧ clsV c = some cv ∧ PySem.W.kitOne K t cv = some b ∧ Q (.bl b) H
section
variable {X : Cx}
theorem call_isi : CallR X (.builtin "isinstance") (rIsi X.K) := by
  intro pins s σ H xs us Q I r h
  obtain ⟨x, c, t, cv, b, e, ty, hc, hk, q⟩ := h
  subst e
  cases r with
  | cons r1 r2 =>
    cases r2 with
    | cons r2 r3 =>
      cases r3
      cases clsV_rel hc r2
      exact isinst_ok I r1 ty hk fun tk => ⟨.bl b, H, I.tok tk, rfl, q⟩

/-! ### all, any of a list of truths -/
theorem range_all (bs : List Bool) : (List.range bs.length).all (fun i => bs.getD i false) = bs.all id := by
  induction bs with
  | nil => rfl
  | cons b r ih =>
    rw [List.length_cons, List.range_succ_eq_map, List.all_cons, List.all_map, List.all_cons]
    simp only [List.getD_cons_zero, id]
    congr 1
theorem bools_are : ∀ {bs : List Bool} {us : List Value}, Vals (bs.map V.bl) us → us = bs.map Value.bool
  | [], _, r => by cases r; rfl
  | b :: bs, _, r => by
    cases r with
    | cons r1 r2 =>
      cases r1
      rw [List.map_cons, bools_are r2]
theorem truth_bools {A : Around} (bs : List Bool) : TruthOf X.prog X.w A (fun i v => (bs.map Value.bool).toArray[i]? = some v) (fun i => bs.getD i false) := by
  intro i v s Q E h q
  have h' : (bs.map Value.bool)[i]? = some v := by simpa using h
  rw [List.getElem?_map] at h'
  cases e : bs[i]? with
  | none => rw [e] at h'; cases h'
  | some b =>
    rw [e] at h'
    have hv : v = .bool b := (Option.some.inj h').symm
    subst hv
    have hq : bs.getD i false = b := by rw [List.getD_eq_getElem?_getD, e]; rfl
    have q' : Q (bs.getD i false) s := q
    rw [hq] at q'
    exact wpAny_truthy_bool q'
def rAll (K : PySem.W.Frag) : List V → Hp → VK → Prop := fun xs H Q => ∃ (p : Addr) (bs : List Bool), xs = [.ref p] ∧ SqL K H p (bs.map V.bl) ∧ Q (.bl (bs.all id)) H
theorem call_all (hc : X.calm = true) : CallR X (.builtin "all") (rAll X.K) := by
  intro pins s σ H xs us Q I r h
  obtain ⟨p, bs, e, hq, q⟩ := h
  subst e
  obtain ⟨u, rfl, rx⟩ := vals1 r
  cases rx
  obtain ⟨its, rv, pl, hz⟩ := I.list hq
  have ei := bools_are rv
  subst ei
  have hne : p ≠ s.heap.objs.size := by
    obtain ⟨o, e, _⟩ := pl.isList
    exact Nat.ne_of_lt (Heap.lt_size e)
  refine call_all_walk (wpAny_pyIter_list pl.isList ⟨_, _, _, _, _, _, _, rfl, Walks.list (show X.A.in1.handled = none from I.ok.hd hc) _ p hne (bs.map Value.bool).toArray, ⟨⟨_, Heap.get?_push_size _ rfl, rfl, rfl⟩, pl.isList.push _⟩, truth_bools bs, fun h' tk kk => ?_⟩)
  have e2 : (List.range (bs.map Value.bool).toArray.size).all (fun i => bs.getD i false) = bs.all id := by
    rw [List.size_toArray, List.length_map]
    exact range_all bs
  rw [e2]
  refine ⟨.bl _, H, I.kept fun b o e => kk b o (fun z => ?_) (Heap.get?_push_of_some _ e), rfl, q⟩
  have z' : b = s.heap.objs.size := by simpa using z
  rw [z'] at e
  exact absurd (Heap.lt_size e) (Nat.lt_irrefl _)

/-! ### data compared, to any depth -/
mutual
inductive DatV (K : PySem.W.Frag) (H : Hp) : V → PyData → Prop
  | non : DatV K H .non .none
  | bl (b : Bool) : DatV K H (.bl b) (.bool b)
  | int (i : Int) : DatV K H (.int i) (.int i)
  | str (x : Str) : DatV K H (.str x) (.str x)
  | lst {a : Addr} {xs : List V} {ds : List PyData} : SqL K H a xs → DatVs K H xs ds → DatV K H (.ref a) (.list ds)
  | tup {a : Addr} {xs : List V} {ds : List PyData} : SqT K H a xs → DatVs K H xs ds → DatV K H (.ref a) (.tuple ds)
inductive DatVs (K : PySem.W.Frag) (H : Hp) : List V → List PyData → Prop
  | nil : DatVs K H [] []
  | cons {x : V} {d : PyData} {xs : List V} {ds : List PyData} : DatV K H x d → DatVs K H xs ds → DatVs K H (x :: xs) (d :: ds)
end
variable {pins : List (Addr × Obj)} {σ : St} {H : Hp} {s : Shared}
mutual
theorem DatV.reads (I : Inv X pins σ H s) : ∀ {v : V} {d : PyData} {u : Value}, DatV X.K H v d → RelV v u → ∃ as, Reads s.heap u d as
  | _, _, _, .non, r => by cases r; exact ⟨_, .none⟩
  | _, _, _, .bl b, r => by cases r; exact ⟨_, .bool b⟩
  | _, _, _, .int i, r => by obtain ⟨t, e⟩ := r; subst e; exact ⟨_, .int i t⟩
  | _, _, _, .str x, r => by obtain ⟨t, e⟩ := r; subst e; exact ⟨_, .str x t⟩
  | _, _, _, .lst hq hs, r => by
    cases r
    obtain ⟨its, rv, pl, hz⟩ := I.list hq
    obtain ⟨as, h⟩ := DatVs.reads I hs rv
    obtain ⟨o, ho, hc, n, hd⟩ := pl.isList
    exact ⟨_, .list ho hc hd (by simpa using h)⟩
  | _, _, _, .tup hq hs, r => by
    cases r
    obtain ⟨its, rv, pl, hz⟩ := I.tuple hq
    obtain ⟨as, h⟩ := DatVs.reads I hs rv
    obtain ⟨o, ho, hc, n, hd⟩ := pl
    exact ⟨_, .tuple ho hc hd (by simpa using h)⟩
theorem DatVs.reads (I : Inv X pins σ H s) : ∀ {vs : List V} {ds : List PyData} {us : List Value}, DatVs X.K H vs ds → Vals vs us → ∃ as, ReadsAll s.heap us ds as
  | _, _, _, .nil, r => by cases r; exact ⟨_, .nil⟩
  | _, _, _, .cons h t, r => by
    cases r with
    | cons r1 r2 =>
      obtain ⟨as, q1⟩ := DatV.reads I h r1
      obtain ⟨bs, q2⟩ := DatVs.reads I t r2
      exact ⟨_, .cons q1 q2⟩
end
def rEqD (K : PySem.W.Frag) (neg : Bool) : R2 := fun x y H Q => ∃ d e, DatV K H x d ∧ DatV K H y e ∧ shaped d = true ∧ shaped e = true ∧ noMix d e = true ∧ Q (.bl (if neg = true then !same d e else same d e)) H
theorem op_neD (hu : X.A.units + 64 < cLine) : OpR X (compareOp .NotEq) (rEqD X.K true) := by
  intro pins s σ H x y v u Q I rx ry h
  obtain ⟨d, e, h1, h2, h3, h4, h5, q⟩ := h
  obtain ⟨as, q1⟩ := h1.reads I rx
  obtain ⟨bs, q2⟩ := h2.reads I ry
  exact ne_dataH_same q1 q2 h3 h4 hu h5 ⟨.bl _, H, I, rfl, q⟩
end

/-! ### Base.m(self, ..): a def of a class, called through the class -/
structure ClsFn (K : PySem.W.Frag) (C : Addr) (m : Str) (f : Addr) : Prop where
  sp : PySem.W.specialIn K (.ref C) "__getattribute__" = some (some (.builtin "type.__getattribute__"))
  rd : PySem.W.readsIn K C (.type "type") = true
  fc : PySem.W.findCls K (.ref C) (.type "type") m = some (.val (.ref f))
  kp : PySem.W.keepIn K (.ref f) = true
section
variable {X : Cx} {CX : CXT} {k : Nat} {f C : Addr} {fd : FuncData} {ps : List Str} {sp : Sp} {dvs : List V} {ds : List Value} {E : XK} {x m : Str} {p pos apos : Pos} {e o : Expr} {es : List Expr} {ta : TE} {t : TA}
theorem pe_clsCall {pl : Sem Bool} (c : ClsFn X.K C m f) (F : FnOk X.prog X.w X.K X.mg X.base CX k f fd ps sp) (hr : Room k X.A) (hg : Gl X x) (hm : X.mg x = some (.ref C)) (hb : Binds X.K fd ps ds) (hd : Vals dvs ds) (hx : Passes CX X E) (ha : PA X (e :: es) t)
    (hdb : (x == ("__debug__" : Str)) = false := by decide) (hst : starEach (e :: es) X.env = (false, eval e X.env) :: starEach es X.env := by rfl) (hpl : (backTo pos (starEach es X.env)).any (·.1) = false := by rfl)
    (ht : eval (.Call (.Attribute (.Name x p) m apos) (e :: es) [] pos) X.env = (do
      let ov ← eval (.Name x p) X.env
      standAt apos.atName
      let (f, first) ← holding [ov] (getMethod ov m pl)
      callWith pos f first (backTo pos (starEach (e :: es) X.env)) (backToKw pos (keywordEach [] X.env))) := by rfl) :
    PE X (.Call (.Attribute (.Name x p) m apos) (e :: es) [] pos) (tCall sp dvs E t) := by
  intro pins s σ H Q I h
  refine PySem.W.methodCall_KW (pl := pl) (ld_glob I hg hm ?_ hdb) ht
  refine PySem.W.method_cls I.kIn c.sp (PySem.W.cls_value I.kIn c.rd c.fc rfl ?_)
  have I1 := I.tok (s.toks + 1)
  refine PySem.W.callWith_K (first := []) (h₀ := X.base) I.ok.mod.kin c.kp (thn (ha pos pins _ σ H _ I1 h) fun us s2 ⟨vs, H2, I2, r, q2⟩ => ⟨I2.kIn, ?_⟩) hst hpl
  exact run_fn F hr hb hd hx I2 r q2

/-- o.m(), whatever class o is of: the method is chosen by the object. (The reading names no context: a comprehension's element may stand so.) -/
def tMethD (P : Program) (w : World) (K : PySem.W.Frag) (mg : Str → Option Value) (base : Heap) (CX : CXT) (k : Nat) (m : Str) (E : XK) (ta : TE) : TE := fun σ H Q => ta σ H fun x H1 => ∃ a C dx fs f fd ps sp, x = .ref a ∧ H1 a = some (.ins C dx fs) ∧ fs.lookup m = none ∧ Cls K C ∧ Meth K C m f ∧
  FnOk P w K mg base CX k f fd ps sp ∧ Binds K fd ps [] ∧ sp [.ref a] H1 Q E
theorem pe_methD {P : Program} {w : World} {K : PySem.W.Frag} {mg : Str → Option Value} {base : Heap} {pl : Sem Bool} (he : PE X o ta) (hr : Room k X.A) (hx : Passes CX X E) (hP : X.prog = P := by rfl) (hw : X.w = w := by rfl) (hK : X.K = K := by rfl) (hmg : X.mg = mg := by rfl) (hbs : X.base = base := by rfl)
    (ht : eval (.Call (.Attribute o m apos) [] [] pos) X.env = (do
      let ov ← eval o X.env
      standAt apos.atName
      let (f, first) ← holding [ov] (getMethod ov m pl)
      callWith pos f first (backTo pos (starEach [] X.env)) (backToKw pos (keywordEach [] X.env))) := by rfl) :
    PE X (.Call (.Attribute o m apos) [] [] pos) (tMethD P w K mg base CX k m E ta) := by
  subst hP hw hK hmg hbs
  intro pins s σ H Q I h
  refine PySem.W.methodCall_KW (pl := pl) (thn (he pins s σ H _ I h) fun u s1 hh => ?_) ht
  obtain ⟨x, H1, I1, rx, a, C, dx, fs, f, fd, ps, sp, ex, ea, l, c, hm, F, hb, q⟩ := hh
  subst ex
  obtain rfl : u = Value.ref a := rx
  refine getmeth_ok I1 ea c hm l ?_
  exact PySem.W.callWith_K0 (first := [.ref a]) I1.kIn hm.kp (run_fn (us := [.ref a]) (vs := [.ref a]) (dvs := []) (ds := []) F hr hb .nil hx I1 (.cons rfl .nil) q)
end

/-! ### ifs -/
theorem iteD {c A B : Prop} [Decidable c] (h1 : c → A) (h2 : ¬ c → B) : if decide c = true then A else B := by
  by_cases h : c
  · rw [decide_eq_true h]; exact iteT (h1 h)
  · rw [decide_eq_false h]; exact iteF (h2 h)
theorem iteND {c A B : Prop} [Decidable c] (h1 : ¬ c → A) (h2 : c → B) : if (!decide c) = true then A else B := by
  by_cases h : c
  · rw [decide_eq_true h]; exact iteF (h2 h)
  · rw [decide_eq_false h]; exact iteT (h1 h)
theorem iteB {b : Bool} {A B : Prop} (h1 : b = true → A) (h2 : b = false → B) : if b = true then A else B := by
  cases b with
  | true => exact iteT (h1 rfl)
  | false => exact iteF (h2 rfl)
theorem iteNB {b : Bool} {A B : Prop} (h1 : b = false → A) (h2 : b = true → B) : if (!b) = true then A else B := by
  cases b with
  | true => exact iteF (h2 rfl)
  | false => exact iteT (h1 rfl)
/-! ### a block's scope, by looking -/
def scOk (sc out : Scope) (XN N : List Str) (idx : List Nat) : Bool :=
  decide (sc.kind = .function) && (sc.names.all (fun y => decide (y.2 ≠ .cell)) && (sc.names.all (fun y => decide (y.2 ≠ .local) || decide (sc.names.lookup y.1 = some .local)) &&
    (sc.names.all (fun y => decide (y.2 ≠ .free) || decide (out.names.lookup y.1 = some .cell)) && (decide (idx.length ≤ N.length) && (idx.zip N).all (fun p => decide (XN[p.1]? = some p.2) && decide (sc.names.lookup p.2 = some .free))))))
theorem ScC.of {X : Cx} {sc : Scope} {N : List Str} {idx : List Nat} (h : scOk sc X.env.scope X.N N idx = true) : ScC X sc N idx := by
  unfold scOk at h
  simp only [Bool.and_eq_true, decide_eq_true_eq, List.all_eq_true, Bool.or_eq_true] at h
  obtain ⟨h1, h2, h3, h4, h5, h6⟩ := h
  refine ⟨h1, h2, fun y hy e => ?_, fun y hy e => ?_, h5, fun k i x a b => ?_⟩
  · rcases h3 y hy with z | z
    · exact absurd e z
    · exact z
  · rcases h4 y hy with z | z
    · exact absurd e z
    · exact z
  · have hm : (i, x) ∈ idx.zip N := by
      have : (idx.zip N)[k]? = some (i, x) := by rw [List.getElem?_zip_eq_some]; exact ⟨a, b⟩
      exact List.mem_of_getElem? this
    exact h6 (i, x) hm
end L2

namespace TL
open PySem PySem.Spec PyProof.Rows L2 L3

/-! ### kinds -/
def kinds : List String := ["NoneType", "bool", "int", "str", "list", "tuple"]
def kinds2 : List String := ["int", "bool", "str", "tuple", "list"]
def isiB (T U : String) : Bool := T == U || (T == "bool" && U == "int")
theorem kit_eq (K : PySem.W.Frag) (T U : String) : PySem.W.kitOne K (.type T) (.type U) =
    (if (Value.type T == Value.type U) = true then some true else if PySem.W.kitMeta U = true then (fastBuiltinMro T).map (·.contains (.type U)) else none) := rfl
theorem kit_tab : ∀ T ∈ kinds, ∀ U ∈ kinds2, (if (Value.type T == Value.type U) = true then some true else if PySem.W.kitMeta U = true then (fastBuiltinMro T).map (·.contains (.type U)) else none) = some (isiB T U) := by decide +kernel
def tyName (H : Hp) : V → Option String
  | .non => some "NoneType"
  | .bl _ => some "bool"
  | .int _ => some "int"
  | .str _ => some "str"
  | .ref a => match H a with
    | some (.lst _) => some "list"
    | some (.tup _) => some "tuple"
    | _ => none
  | _ => none
theorem tyName_of {K : PySem.W.Frag} {H : Hp} {v : V} {T : String} (h : tyName H v = some T) : TyOf K H v (.type T) ∧ T ∈ kinds := by
  cases v with
  | non => cases h; exact ⟨.non, by decide⟩
  | bl b => cases h; exact ⟨.bl b, by decide⟩
  | int i => cases h; exact ⟨.int i, by decide⟩
  | str x => cases h; exact ⟨.str x, by decide⟩
  | ref a =>
    unfold tyName at h
    cases e : H a with
    | none => simp only [e] at h; cases h
    | some o =>
      cases o with
      | lst xs => simp only [e] at h; cases h; exact ⟨.lst e, by decide⟩
      | tup xs => simp only [e] at h; cases h; exact ⟨.tup e, by decide⟩
      | _ => simp only [e] at h; cases h
  | _ => cases h
theorem kitU {K : PySem.W.Frag} {H : Hp} {v : V} {T U : String} (h : tyName H v = some T) (hU : U ∈ kinds2) : PySem.W.kitOne K (.type T) (.type U) = some (isiB T U) := by
  rw [kit_eq]
  exact kit_tab T (tyName_of (K := K) h).2 U hU
theorem tyT {K : PySem.W.Frag} {H : Hp} {v : V} {T : String} (h : tyName H v = some T) : TyOf K H v (.type T) := (tyName_of h).1
theorem tyName_same {H H' : Hp} {v : V} {T : String} (s : Same H H') (h : tyName H v = some T) : tyName H' v = some T := by
  cases v with
  | ref a =>
    unfold tyName at h ⊢
    cases e : H a with
    | none => simp only [e] at h; cases h
    | some o => simp only [s a o e]; simp only [e] at h; exact h
  | _ => exact h
def isW : V → Bool
  | .int _ => true
  | _ => false
theorem isW_of {H : Hp} {v : V} {T : String} (h : tyName H v = some T) : (isiB T "int" && !isiB T "bool") = isW v := by
  cases v with
  | non => cases h; rfl
  | bl b => cases h; rfl
  | int i => cases h; rfl
  | str x => cases h; rfl
  | ref a =>
    unfold tyName at h
    cases e : H a with
    | none => simp only [e] at h; cases h
    | some o =>
      cases o with
      | lst xs => simp only [e] at h; cases h; rfl
      | tup xs => simp only [e] at h; cases h; rfl
      | _ => simp only [e] at h; cases h
  | _ => cases h

/-! ### steps -/
abbrev TOPi : Int := 1000000000000000000000000000000000000000000000000000000000000
def boundsM (w : Str) : Option (List Int) :=
  if w = "put" then some [4, TOPi] else if w = "add" then some [4, 4] else if w = "set" then some [12, 4] else if w = "look" then some [4, 12] else if w = "swap" then some [4, 12]
  else if w = "clear" then some [] else if w = "skip" then some [4, 121] else none
def wIn : V → Int → Bool
  | .int i, b => decide (0 ≤ i) && decide (i < b)
  | _, _ => false
/-- is the tuple of these parts a step -/
def stepOk : List V → Bool
  | .str w :: ps => match boundsM w with
    | none => false
    | some bs => decide (ps.length = bs.length) && (ps.zip bs).all fun p => wIn p.1 p.2
  | _ => false
def viewT (H : Hp) : V → Option (List V)
  | .ref a => match H a with
    | some (.tup xs) => some xs
    | _ => none
  | _ => none
def isStep (H : Hp) (v : V) : Bool := match viewT H v with
  | some xs => stepOk xs
  | none => false
theorem viewT_ref {H : Hp} {v : V} {xs : List V} (h : viewT H v = some xs) : ∃ a, v = .ref a ∧ H a = some (.tup xs) := by
  cases v with
  | ref a =>
    refine ⟨a, rfl, ?_⟩
    unfold viewT at h
    cases e : H a with
    | none => simp only [e] at h; cases h
    | some o =>
      cases o with
      | tup ys => simp only [e] at h; cases h; rfl
      | _ => simp only [e] at h; cases h
  | _ => cases h
theorem viewT_of {H : Hp} {a : Addr} {xs : List V} (h : H a = some (.tup xs)) : viewT H (.ref a) = some xs := by
  unfold viewT; simp only [h]
theorem tyName_tup {H : Hp} {a : Addr} {xs : List V} (h : H a = some (.tup xs)) : tyName H (.ref a) = some "tuple" := by
  unfold tyName; simp only [h]
theorem noView {H : Hp} {v : V} {T : String} (h : tyName H v = some T) : isiB T "tuple" = (viewT H v).isSome := by
  cases v with
  | non => cases h; rfl
  | bl b => cases h; rfl
  | int i => cases h; rfl
  | str x => cases h; rfl
  | ref a =>
    unfold tyName at h
    unfold viewT
    cases e : H a with
    | none => simp only [e] at h; cases h
    | some o =>
      cases o with
      | lst xs => simp only [e] at h ⊢; cases h; rfl
      | tup xs => simp only [e] at h ⊢; cases h; rfl
      | _ => simp only [e] at h; cases h
  | _ => cases h
theorem isiStr {H : Hp} {v : V} {T : String} (h : tyName H v = some T) : isiB T "str" = true ↔ ∃ x, v = .str x := by
  cases v with
  | str x => cases h; exact ⟨fun _ => ⟨x, rfl⟩, fun _ => rfl⟩
  | non => cases h; exact ⟨fun z => (by cases z), fun ⟨_, z⟩ => (by cases z)⟩
  | bl b => cases h; exact ⟨fun z => (by cases z), fun ⟨_, z⟩ => (by cases z)⟩
  | int i => cases h; exact ⟨fun z => (by cases z), fun ⟨_, z⟩ => (by cases z)⟩
  | ref a =>
    refine ⟨fun z => ?_, fun ⟨_, z⟩ => by cases z⟩
    unfold tyName at h
    cases e : H a with
    | none => simp only [e] at h; cases h
    | some o =>
      cases o with
      | lst xs => simp only [e] at h; cases h; cases z
      | tup xs => simp only [e] at h; cases h; cases z
      | _ => simp only [e] at h; cases h
  | _ => cases h
/-- a heap with a new object -/
theorem same_new {H H' : Hp} {p : Addr} {o : HO} (s : Same H H') (h : H' p = none) : Same H (upd H' p o) := fun b u e => by
  rw [upd_ne (ne_of_none (s b u e) h)]
  exact s b u e
end TL

namespace L2
open PySem PySem.Spec PyProof.Rows L3

/-! ### an exception in flight -/
/-- the exception's record: class, own dict, newest traceback entry -/
def ExcO (h : Heap) (e : Addr) (cls : Value) (dd : Option Addr) (tb : Value) : Prop :=
  ∃ oe vs a0, h.get? e = some oe ∧ oe.cls = cls ∧ oe.dict = dd ∧ oe.data = .fields vs ∧ vs[0]? = some a0 ∧ vs[1]? = some tb
/-- a traceback entry at T, in flight from fl -/
def TbAt (h : Heap) (e T : Addr) (fl : Value) : Prop := T ≠ e ∧ ∃ oT ts, h.get? T = some oT ∧ oT.data = .fields ts ∧ ts[3]? = some fl
def Fly (h : Heap) (e : Addr) (cls : Value) (dd : Option Addr) (tb : Option Addr) : Prop :=
  ExcO h e cls dd (tb.elim .none Value.ref) ∧ ∀ T, tb = some T → TbAt h e T .none
def Held (h : Heap) (e : Addr) (cls : Value) (dd : Option Addr) (T : Addr) (fl : Value) : Prop := ExcO h e cls dd (.ref T) ∧ TbAt h e T fl
theorem dict_mapF (o : Obj) (f : Array Value → Array Value) : (o.mapFields f).dict = o.dict := by
  obtain ⟨c, d, dt, s⟩ := o
  cases dt <;> rfl

section
variable {M : Model} {A : Around} {E : Value → Shared → Prop} {s : Shared} {base : Heap} {env : Env} {outer : List Env} {L e : Addr} {cls : Value} {dd : Option Addr} {Q : Unit → Shared → Prop}
/-- a new entry is laid -/
theorem entry_core {head : Value} {had : Bool} {oe : Obj} {vs : Array Value} {a0 : Value} (hfr : A.frames = some (env :: outer)) (hl : s.heap.FunFrames base (env :: outer)) (hf : env.frame = some L) (q : s.heap.get? e = some oe) (hc : oe.cls = cls) (hdd : oe.dict = dd)
    (hd : oe.data = .fields vs) (h0 : vs[0]? = some a0) (hsz : 1 < vs.size)
    (k : ∀ h' T, (∀ b o, b ∉ frs (env :: outer) → b ≠ e → s.heap.get? b = some o → h'.get? b = some o) → (∀ b o, s.heap.get? b = some o → b ≠ e → ∃ sl, h'.get? b = some { o with slots := sl }) → s.heap.objs.size ≤ T →
      Held h' e cls dd T (rawInt L) → Q () { s with heap := h' }) :
    wpAny M A (do let a ← frameOf env; let pl ← entryPlaceOf L had; let b ← EntryCells.newEntry head a .none (rawInt L) .none pl; setField (.ref e) 1 b) Q E s := by
  have hne : e ∉ frs (env :: outer) := fun z => by
    obtain ⟨_, o, ho, nf⟩ := hl.mem z
    rw [q] at ho; cases ho; exact nf vs hd
  refine wpAny_bind (wpAny_frameOf_fun hfr hl hf fun h1 so => ?_)
  refine wpAny_bind (wpAny_entryPlaceOf fun pl hp => ?_)
  unfold EntryCells.newEntry newFields
  refine wpAny_bind (wpAny_newObj_type ?_ (hp.sizeOk5 _ _ _ _ _))
  have q1 : h1.get? e = some oe := (so.2.1 e hne).trans q
  generalize hz : ({ cls := .type "traceback", dict := none, data := .fields ([head, .ref L, .none, rawInt L, .none] ++ (if pl.isEmpty then List.replicate 6 Value.none else pl)).toArray } : Obj) = ot
  have q2 : (h1.push ot).get? e = some oe := Heap.get?_push_of_some _ q1
  refine wpAny_setField q2 hd hsz ?_
  have nT : h1.objs.size ≠ e := Nat.ne_of_gt (Heap.lt_size q1)
  have d3 := Obj.data_mapFields hd (·.setIfInBounds 1 (Value.ref h1.objs.size))
  have e3 := Heap.get?_update_self (Obj.mapFields (·.setIfInBounds 1 (Value.ref h1.objs.size))) q2 (Obj.isFreed_of_fields d3)
  have fr : ot.isFreed = false := by rw [← hz]; rfl
  have t3 : ((h1.push ot).update e (Obj.mapFields (·.setIfInBounds 1 (Value.ref h1.objs.size)))).get? h1.objs.size = some ot := by
    rw [Heap.get?_update_other _ _ (Ne.symm nT)]
    exact Heap.get?_push_size h1 fr
  have kp : ∀ b o, b ≠ e → h1.get? b = some o → ((h1.push ot).update e (Obj.mapFields (·.setIfInBounds 1 (Value.ref h1.objs.size)))).get? b = some o := fun b o n z => by
    rw [Heap.get?_update_other _ _ (Ne.symm n)]
    exact Heap.get?_push_of_some _ z
  refine k _ h1.objs.size (fun b o hb n z => kp b o n ((so.2.1 b hb).trans z)) (fun b o z n => ?_) (Nat.le_of_eq so.1.symm) ⟨⟨_, _, a0, e3, ?_, ?_, d3, ?_, ?_⟩, nT, ot, _, t3, by rw [← hz], ?_⟩
  · obtain ⟨sl, z1⟩ := so.2.2 b o z
    exact ⟨sl, kp b _ n z1⟩
  · rw [Obj.cls_mapFields]; exact hc
  · rw [dict_mapF]; exact hdd
  · rw [Array.getElem?_setIfInBounds_ne (by decide)]; exact h0
  · simp [hsz]
  · first | (simp; done) | (rcases hp with rfl | ⟨_, _, _, _, _, _, _, rfl⟩ <;> simp)
/-- the frame is noted -/
theorem note_core {tb : Option Addr} (hfr : A.frames = some (env :: outer)) (hl : s.heap.FunFrames base (env :: outer)) (hf : env.frame = some L) (x : Fly s.heap e cls dd tb)
    (k : ∀ h' T, (∀ b o, b ∉ frs (env :: outer) → b ≠ e → tb ≠ some b → s.heap.get? b = some o → h'.get? b = some o) → (∀ b o, s.heap.get? b = some o → b ≠ e → tb ≠ some b → ∃ sl, h'.get? b = some { o with slots := sl }) → s.heap.objs.size ≤ T →
      Held h' e cls dd T (rawInt L) → Q () { s with heap := h' }) : wpAny M A (noteFrame (.ref e) env) Q E s := by
  obtain ⟨⟨oe, vs, a0, q, hc, hdd, hd, h0, h1⟩, ht⟩ := x
  have hsz : 1 < vs.size := (Array.getElem?_eq_some_iff.mp h1).1
  unfold noteFrame
  simp only [hf]
  cases tb with
  | none =>
    refine wpAny_bind (wpAny_field q hd h1 ?_)
    rw [if_neg (by decide)]
    exact entry_core hfr hl hf q hc hdd hd h0 hsz fun h' T a b c d => k h' T (fun x o y z _ => a x o y z) (fun x o y z _ => b x o y z) c d
  | some T0 =>
    obtain ⟨nT, oT, ts, qT, dT, t3⟩ := ht T0 rfl
    refine wpAny_bind (wpAny_field q hd h1 ?_)
    show wpAny M A (if (Value.ref T0 != Value.none) = true then _ else _) Q E s
    rw [if_pos (by simp)]
    refine wpAny_bind (wpAny_field qT dT t3 ?_)
    rw [if_neg (show ¬ ((Value.none == rawInt L) = true) by simp [rawInt])]
    refine wpAny_bind (wpAny_setField qT dT (Array.getElem?_eq_some_iff.mp t3).1 ?_)
    have oth : ∀ b, b ≠ T0 → (s.heap.update T0 (Obj.mapFields (·.setIfInBounds 3 Value.none))).get? b = s.heap.get? b := fun b n => Heap.get?_update_other _ _ (Ne.symm n)
    refine entry_core (s := { s with heap := s.heap.update T0 (Obj.mapFields (·.setIfInBounds 3 Value.none)) }) hfr (hl.of_keeps fun b o z nf => ⟨o, (oth b fun w => ?_).trans z, rfl⟩) hf ((oth e (Ne.symm nT)).trans q) hc hdd hd h0 hsz fun h' T a b c d => ?_
    · rw [w, qT] at z; cases z; exact nf ts dT
    · refine k h' T (fun x o y z n w => a x o y z ((oth x fun v => n (by rw [v])).trans w)) (fun x o w z n => b x o ((oth x fun v => n (by rw [v])).trans w) z) ?_ d
      have c' : (s.heap.update T0 (Obj.mapFields (·.setIfInBounds 3 Value.none))).objs.size ≤ T := c
      rw [Heap.size_after_update] at c'
      exact c'
/-- the flight ends -/
theorem flight_core {T : Addr} {fl : Value} (x : Held s.heap e cls dd T fl) (k : ∀ h', (∀ b o, b ≠ T → s.heap.get? b = some o → h'.get? b = some o) → Fly h' e cls dd (some T) → Q () { s with heap := h' }) :
    wpAny M A (setFlight (.ref e) none) Q E s := by
  obtain ⟨⟨oe, vs, a0, q, hc, hdd, hd, h0, h1⟩, nT, oT, ts, qT, dT, t3⟩ := x
  have s3 : 3 < ts.size := (Array.getElem?_eq_some_iff.mp t3).1
  unfold setFlight
  refine wpAny_bind (wpAny_field q hd h1 ?_)
  rw [if_pos (show (Value.ref T != Value.none) = true by simp)]
  have oth : ∀ b, b ≠ T → (s.heap.update T (Obj.mapFields (·.setIfInBounds 3 ((none : Option Addr).elim Value.none fun f => rawInt f)))).get? b = s.heap.get? b := fun b n => Heap.get?_update_other _ _ (Ne.symm n)
  refine wpAny_setField qT dT s3 (k _ (fun b o n z => (oth b n).trans z) ⟨⟨oe, vs, a0, (oth e (Ne.symm nT)).trans q, hc, hdd, hd, h0, h1⟩, fun T' z => ?_⟩)
  cases z
  exact ⟨nT, _, _, Heap.get?_update_self _ qT (Obj.isFreed_of_fields (Obj.data_mapFields dT _)), Obj.data_mapFields dT _, by simp [s3]⟩
end
end L2

namespace L2
open PySem PySem.Spec PyProof.Rows L3

/-- behind a call: an exception has come -/
def CXE (P : Program) (w : World) : CXT := fun outer H s E e s' => ∃ ea c dd T H', e = .ref ea ∧ s'.os = s.os ∧ AllBare s'.gens ∧ Un (frs outer) [] H H' s.heap s'.heap ∧ HOk P w H' s'.heap ∧ Fly s'.heap ea c dd (some T) ∧
  s.heap.objs.size ≤ ea ∧ s.heap.objs.size ≤ T ∧ H' ea = none ∧ H' T = none ∧ E c dd H'
/-- within a body: an exception is in flight -/
structure XState (X : Cx) (pins : List (Addr × Obj)) (σ : St) (H : Hp) (s : Shared) (ea : Addr) (c : Value) (dd tb : Option Addr) : Prop where
  inv : Inv X pins σ H s
  fly : Fly s.heap ea c dd tb
  fe : FpOk X pins H ea
  ft : ∀ T, tb = some T → FpOk X pins H T
abbrev WX := St → XK
/-- what is told of an exception (W) is enough for what the code wants of it -/
def Lifts (X : Cx) (W : WX) : Prop := ∀ (pins : List (Addr × Obj)) (σ : St) (H : Hp) (s : Shared) (ea : Addr) (c : Value) (dd tb : Option Addr), XState X pins σ H s ea c dd tb → W σ c dd H → X.xe (.ref ea) s

section
variable {X : Cx} {pins : List (Addr × Obj)} {σ : St} {H : Hp} {s : Shared}
/-- the heap has changed at the frames' slots and at untracked records of ours alone -/
theorem hok_slots {h' : Heap} {ch : List Addr} (I : Inv X pins σ H s) (hc : ∀ b ∈ ch, H b = none) (k : ∀ b o, b ∉ frs X.stack → b ∉ ch → s.heap.get? b = some o → h'.get? b = some o) : HOk X.prog X.w H h' := fun b u e => by
  refine (I.hok b u e).stay (fun d v hd q => k d v (fun z => ?_) (fun z => ?_) q) (fun _ q => q) fun _ _ q => q
  · have n := I.stkFree d z
    rcases hd with w | w
    · rw [w, e] at n; cases n
    · rw [w] at n; cases n
  · have n := hc d z
    rcases hd with w | w
    · rw [w, e] at n; cases n
    · rw [w] at n; cases n
/-- a def's body: what is told of an exception is told of the call -/
theorem lifts_fn {P : Program} {w : World} {K : PySem.W.Frag} {mg : Str → Option Value} {base : Heap} {N : List Str} {qual : Str} {scope : Scope} {f : Addr} {cd : Value} {A : Around} {outer : List Env} {s0 : Shared} {H0 : Hp} {E : XK} :
    Lifts (cxOf (CXE P w) P w K mg base N qual scope f cd A outer s0 H0 E) (fun _ => E) := by
  intro pins σ H s ea c dd tb x hE
  show wpAny (model P w) (A.deeper (envOfC qual scope s0.heap.objs.size f cd)) (leaving (envOfC qual scope s0.heap.objs.size f cd) (.ref ea)) (fun _ s'' => CXE P w outer H0 s0 E (.ref ea) s'') (fun e' s'' => CXE P w outer H0 s0 E e' s'') s
  have I := x.inv
  have eaN : s0.heap.objs.size ≤ ea := by
    rcases x.fe.2.2.2.1 with z | z
    · exact absurd (show ea ∈ ([] : List Addr) from z) (by simp)
    · exact z
  have tN : ∀ T, tb = some T → s0.heap.objs.size ≤ T := fun T z => by
    rcases (x.ft T z).2.2.2.1 with y | y
    · exact absurd (show T ∈ ([] : List Addr) from y) (by simp)
    · exact y
  unfold leaving
  refine wpAny_bind (note_core (base := base) I.ok.frames I.stack rfl x.fly fun h1 T k1 k2 hT hd1 => ?_)
  refine flight_core hd1 fun h2 k3 fl2 => ?_
  have lt0 : ∀ {b : Addr} {o : Obj}, s0.heap.get? b = some o → b < s0.heap.objs.size := fun e => Heap.lt_size e
  have sN : s0.heap.objs.size ≤ s.heap.objs.size := I.sz
  have nT0 : ∀ {b : Addr}, b < s0.heap.objs.size → b ≠ T := fun h z => absurd (Nat.lt_of_lt_of_le h (Nat.le_trans sN hT)) (by rw [z]; exact Nat.lt_irrefl _)
  have nE0 : ∀ {b : Addr}, b < s0.heap.objs.size → b ≠ ea := fun h z => absurd (Nat.lt_of_lt_of_le h eaN) (by rw [z]; exact Nat.lt_irrefl _)
  have nB0 : ∀ {b : Addr}, b < s0.heap.objs.size → tb ≠ some b := fun h z => absurd (Nat.lt_of_lt_of_le h (tN _ z)) (Nat.lt_irrefl _)
  have nL0 : ∀ {b : Addr}, b < s0.heap.objs.size → b ∉ frs outer → b ∉ frs (envOfC qual scope s0.heap.objs.size f cd :: outer) := fun h z y => by
    rcases I.stkSub _ y |> List.mem_cons.mp with u | u
    · exact absurd h (by rw [u]; exact Nat.lt_irrefl _)
    · exact z u
  have nsT : ∀ {b : Addr} {o : Obj}, s.heap.get? b = some o → b ≠ T := fun e z => absurd (Nat.lt_of_lt_of_le (Heap.lt_size e) hT) (by rw [z]; exact Nat.lt_irrefl _)
  have hok2 : HOk P w H h2 := by
    refine hok_slots (ch := ea :: tb.toList) I (fun b hb => ?_) fun b o hb hc e => k3 b o (nsT e) (k1 b o hb (fun z => hc (by rw [z]; exact List.mem_cons_self)) (fun z => hc (List.mem_cons_of_mem _ (by rw [z]; simp))) e)
    rcases List.mem_cons.mp hb with z | z
    · rw [z]; exact x.fe.1
    · cases tb with
      | none => simp at z
      | some T0 =>
        have z' : b = T0 := by simpa using z
        rw [z']; exact (x.ft T0 rfl).1
  refine ⟨ea, c, dd, T, H, rfl, I.os, I.bare, ⟨fun b o e n hb hx => ?_, fun b o e n hb hx => ?_, I.base.free, fun b o e hx => ?_, I.base.tups, I.base.frzs, I.base.tbls⟩, hok2, fl2, eaN, Nat.le_trans sN hT, x.fe.1, I.hok.fresh hT, hE⟩
  · have l := lt0 e
    exact k3 b o (nT0 l) (k1 b o (nL0 l hb) (nE0 l) (nB0 l) (I.base.keep b o e n hb hx))
  · have l := lt0 e
    obtain ⟨sl, q⟩ := I.base.slot b o e n hb hx
    obtain ⟨sl', q'⟩ := k2 b _ q (nE0 l) (nB0 l)
    exact ⟨sl', k3 b _ (nT0 l) q'⟩
  · have l := lt0 e
    obtain ⟨o', q⟩ := I.base.there b o e hx
    obtain ⟨sl', q'⟩ := k2 b _ q (nE0 l) (nB0 l)
    exact ⟨_, k3 b _ (nT0 l) q'⟩
/-- behind a call that has raised -/
theorem xstate_of {E : XK} {e : Value} {s' : Shared} (I : Inv X pins σ H s) (h : CXE X.prog X.w X.stack H s E e s') : ∃ ea c dd T H', e = .ref ea ∧ XState X pins σ H' s' ea c dd (some T) ∧ E c dd H' := by
  obtain ⟨ea, c, dd, T, H', rfl, os, bare, un, hok, fl, l1, l2, n1, n2, q⟩ := h
  exact ⟨ea, c, dd, T, H', rfl, ⟨I.call' os un hok bare (fun b z => absurd z (by simp)), fl, I.fpOk l1 n1, fun T' z => by cases z; exact I.fpOk l2 n2⟩, q⟩
end

/-! ### calls that may raise: what is wanted of the exception hangs on the names' values -/
def tCallX (sp : Sp) (dvs : List V) (W : WX) (t : TA) : TE := fun σ H Q => t σ H fun vs H1 => sp (vs ++ dvs) H1 Q (W σ)
section
variable {X : Cx} {k : Nat} {f C : Addr} {fd : FuncData} {ps : List Str} {sp : Sp} {dvs : List V} {ds : List Value} {W : WX} {x m : Str} {p pos apos : Pos} {e o : Expr} {es : List Expr} {ta : TE} {t : TA} {P : Program} {w : World}
theorem run_fnX {pins : List (Addr × Obj)} {σ : St} {H : Hp} {s : Shared} {Q : VK} {us : List Value} {vs : List V} (F : FnOk X.prog X.w X.K X.mg X.base (CXE X.prog X.w) k f fd ps sp) (hr : Room k X.A) (hb : Binds X.K fd ps ds) (hd : Vals dvs ds) (hx : Lifts X W)
    (I : Inv X pins σ H s) (r : Vals vs us) (h : sp (vs ++ dvs) H Q (W σ)) : wpAny (model X.prog X.w) X.A (call (.ref f) us) (EP X pins σ Q) X.xe s := by
  have r2 : Vals (vs ++ dvs) (us ++ ds) := r.append hd
  have hl : (us ++ ds).length = ps.length := by rw [← r2.length]; exact F.len _ _ _ _ h
  refine wpAny_call (codeAny_mono (F.run X.A X.stack s H ⟨us, []⟩ (us ++ ds) (vs ++ dvs) Q (W σ) hr I.env0 (hb s us I.kIn hl) r2 h) fun r s' hq => ?_)
  cases r with
  | error e =>
    obtain ⟨ea, c, dd, T, H', rfl, x, hE⟩ := xstate_of I hq
    exact hx _ _ _ _ _ _ _ _ x hE
  | ok fl =>
    cases fl with
    | ret u => exact I.after hq
    | next => exact False.elim hq
    | brk => exact False.elim hq
    | cont => exact False.elim hq
theorem pe_callX (F : FnOk P w X.K X.mg X.base (CXE P w) k f fd ps sp) (hr : Room k X.A) (hL : Lifts X W) (hg : Gl X x) (hm : X.mg x = some (.ref f)) (hk : PySem.W.keepIn X.K (.ref f) = true) (hb : Binds X.K fd ps ds) (hd : Vals dvs ds)
    (ha : PA X (e :: es) t) (hP : X.prog = P := by rfl) (hw : X.w = w := by rfl) (hdb : (x == ("__debug__" : Str)) = false := by decide) (he : starEach (e :: es) X.env = (false, eval e X.env) :: starEach es X.env := by rfl) (hpl : (backTo pos (starEach es X.env)).any (·.1) = false := by rfl) :
    PE X (.Call (.Name x p) (e :: es) [] pos) (tCallX sp dvs W t) := by
  subst hP hw
  intro pins s σ H Q I h
  refine wpAny_Call_Name_kw (ld_glob I hg hm ?_ hdb)
  refine PySem.W.callWith_K (h₀ := X.base) I.ok.mod.kin hk (thn (ha pos pins s σ H _ I h) fun us s1 ⟨vs, H1, I1, r, q⟩ => ⟨I1.kIn, ?_⟩) he hpl
  exact run_fnX F hr hb hd hL I1 r q
end

/-! ### a def that may raise -/
section
variable {P : Program} {w : World} {K : PySem.W.Frag} {mg : Str → Option Value} {base : Heap}
/-- the body is read with two facts at hand: its exceptions are the call's (W: E whatever the names hold), and loops let them pass -/
theorem Fun.okX {x qual : Str} {st : Stmt} {f : Addr} {fd : FuncData} {N ps : List Str} {k : Nat} {sp : Sp} (F : Fun K x qual st f fd) (S : FnScope N ps (defScope st)) (len : ∀ vs H Q E, sp vs H Q E → vs.length = ps.length)
    (hbody : ∀ (cdv : Value) (A : Around) (outer : List Env) (s : Shared) (H : Hp) (vs : List V) (Q : VK) (E : XK), Room k (A.deeper (envOfC qual (defScope st) s.heap.objs.size f cdv)) →
      Lifts (cxOf (CXE P w) P w K mg base N qual (defScope st) f cdv A outer s H E) (fun _ => E) →
      PassesOwn (model P w) (A.deeper (envOfC qual (defScope st) s.heap.objs.size f cdv)) (envOfC qual (defScope st) s.heap.objs.size f cdv) (cxOf (CXE P w) P w K mg base N qual (defScope st) f cdv A outer s H E).xe → sp vs H Q E →
      ∃ t, PSs (cxOf (CXE P w) P w K mg base N qual (defScope st) f cdv A outer s H E) (defBody st) t ∧ t { nx := fun _ H' => Q .non H', rt := Q } (start N vs) H) : FnOk P w K mg base (CXE P w) (k + 1) f fd ps sp := by
  obtain ⟨oc, od, kV, doc, pm, an, cdv, ct, osl, rfl, lk, hcd⟩ := F.ex
  exact fn_of lk hcd S len fun A outer s H vs Q E hr hsp => hbody cdv A outer s H vs Q E hr lifts_fn PassesOwn.leaving hsp
end
end L2

namespace L2
open PySem PySem.Spec PyProof.Rows L3
open Sem (wp)

abbrev bmVE : List Value := [.type "ValueError", .type "Exception", .type "BaseException", .type "object"]
/-- what a class of errors under ValueError is in the heap (its own tail has no __init__); oi: its own __init__, where it has one -/
def XAt (h : Heap) (C : Addr) (oi : Option Value) : Prop := ∃ nm q N bs bm hdct sn sub ab col dd k0 k1 k2 k3 k5 mN, h.get? C = some (excClassObj nm q C N bs bm hdct sn sub ab col dd k0 k1 k2 k3 k5 "ValueError.__new__") ∧ h.Ns N mN ∧ mN "__init__" = oi ∧ OwnTail h bmVE bm
theorem XAt.keeps {h h' : Heap} {C : Addr} {oi : Option Value} (x : XAt h C oi) (k : ∀ b o, h.get? b = some o → h'.get? b = some o) : XAt h' C oi := by
  obtain ⟨nm, q, N, bs, bm, hdct, sn, sub, ab, col, dd, k0, k1, k2, k3, k5, mN, hC, hN, hi, T⟩ := x
  exact ⟨nm, q, N, bs, bm, hdct, sn, sub, ab, col, dd, k0, k1, k2, k3, k5, mN, k _ _ hC, hN.keeps k, hi, T.keeps k⟩
/-- by looking: a class of errors that has no __init__ of its own -/
def XCls (K : PySem.W.Frag) (C : Addr) : Prop := PySem.W.excIn K C bmVE "ValueError.__new__" = true
theorem XCls.at {K : PySem.W.Frag} {C : Addr} {h : Heap} (x : XCls K C) (X : K.In h) : XAt h C none := by
  unfold XCls PySem.W.excIn at x
  split at x
  · rename_i dd cd sl ho
    split at x
    · rename_i C' bm k0 k1 k2 k3 n k5 hm hs
      simp only [Bool.and_eq_true, beq_iff_eq, Bool.not_eq_true'] at x
      obtain ⟨⟨⟨⟨⟨e1, e2⟩, hdel⟩, ht⟩, hok⟩, hni⟩ := x
      subst e1 e2
      obtain ⟨nm, bs, mro, ns, qn, hd, sn, sub, ab, col, del⟩ := cd
      dsimp only at hm hdel hok hni
      subst hm hdel
      have hsl : sl = #[k0, k1, k2, k3, some (.builtin "ValueError.__new__"), k5] := by
        obtain ⟨l⟩ := sl
        exact congrArg Array.mk hs
      subst hsl
      exact ⟨nm, qn, ns, bs, bm, hd, sn, sub, ab, col, dd, k0, k1, k2, k3, k5, _, X _ _ ho, .of_isNs (PySem.W.isNs_of_in X hok), PySem.W.nsMap_none_of_in X hok hni, PySem.W.tail_of_in X ht⟩
    · cases x
  · cases x

section
variable {prog : Program} {w : World} {A : Around} {E : Value → Shared → Prop} {h : Heap} {g : Array GenState} {d : Drawn} {t : Nat} {os : OsState} {C : Addr}
/-- the record that __new__ makes -/
abbrev newX (C t : Addr) : Obj := { cls := .ref C, data := .fields #[.ref t, .none, .none, .none, .bool false, .none] }
theorem exc_made {us : List Value} {Q : Fin → Shared → Prop} (x : XAt h C none) (hz : us.length ≤ sizeLine)
    (hq : ∀ h' t', (∀ b o, h.get? b = some o → h'.get? b = some o) → h'.get? (h.objs.size + 1) = some (newX C t') → Q (.done (.ret (.ref (h.objs.size + 1)))) ⟨h', g, d, t, os⟩) :
    wpAny (model prog w) A (Builtin.«type.__call__» ⟨.ref C :: us, []⟩) Q E ⟨h, g, d, t, os⟩ := by
  obtain ⟨nm, q, N, bs, bm, hdct, sn, sub, ab, col, dd, k0, k1, k2, k3, k5, mN, hC, hN, hi, T⟩ := x
  have Fv := PySem.F.excBase_ValueError
  repeat (first | (with_reducible refine wpAny_loadPart_at hC ?_) | (with_reducible refine wpAny_madeBy_exc hC ?_) | wp_step)
  refine codeAny_call_builtin_code (Code.quiet_builtin _ Fv.quiet) (wpAny_check_new_subU Fv rfl T hC (codeAny_exc_new_subU Fv rfl Fv T hC ?_ hz))
  show wpAny _ _ _ _ _ _
  have kk : ∀ b o, h.get? b = some o → ((h.push { cls := .type "tuple", data := .seq us.toArray }).push { cls := .ref C, data := .fields #[.ref h.objs.size, .none, .none, .none, .bool false, .none] }).get? b = some o := fun b o z => Heap.get?_push_of_some _ (Heap.get?_push_of_some _ z)
  have c1 := kk _ _ hC
  have n1 := hN.keeps kk
  have T1 := T.keeps kk
  have ge : ((h.push { cls := .type "tuple", data := .seq us.toArray }).push { cls := .ref C, data := .fields #[.ref h.objs.size, .none, .none, .none, .bool false, .none] }).get? (h.objs.size + 1) = some { cls := .ref C, data := .fields #[.ref h.objs.size, .none, .none, .none, .bool false, .none] } := by heap_get
  have cc : (Value.ref C :: bm).contains (.ref C) = true := by simp
  unfold isInstance
  repeat (first | (with_reducible refine wpAny_loadPart_at ge ?_) | (with_reducible refine wpAny_isSubtype_exc c1 ?_; rw [cc]) | wp_step)
  show wpAny _ _ (typeLookup (.ref C) _) _ _ _
  refine wpAny_typeLookup_tail c1 n1 T1 Fv.mroIs Fv.init.lookup ?_
  rw [hi]
  refine wpAny_holding (wpAny_bind (wpAny_of_eq (Fv.init.bind _) (wpAny_bind (wpAny_call (codeAny_call_builtin Fv.init.plain Fv.initEntry (wpAny_check_init_subU Fv T1 c1 ge rfl ?_))))))
  wp_walk
  refine hq _ (h.objs.size + 2) (fun b o z => ?_) ?_
  · rw [Heap.get?_update_other _ _ (Nat.ne_of_gt (Nat.lt_succ_of_lt (Heap.lt_size z)))]
    exact Heap.get?_push_of_some _ (kk b o z)
  · rw [Heap.get?_update_self _ (Heap.get?_push_of_some _ ge) rfl]
    simp only [Heap.size_push]
    rfl
/-- C(..) of a class of errors without an __init__ of its own: the address is told -/
theorem exc_call {us : List Value} {Q : Value → Shared → Prop} (x : XAt h C none) (hz : us.length ≤ sizeLine)
    (hq : ∀ h' t', (∀ b o, h.get? b = some o → h'.get? b = some o) → h'.get? (h.objs.size + 1) = some (newX C t') → Q (.ref (h.objs.size + 1)) ⟨h', g, d, t, os⟩) :
    wpAny (model prog w) A (call (.ref C) us) Q E ⟨h, g, d, t, os⟩ := by
  obtain ⟨nm, q, N, bs, bm, hdct, sn, sub, ab, col, dd, k0, k1, k2, k3, k5, mN, hC, r⟩ := id x
  have f1 := tc_lookup
  have f2 := tc_bind (.ref C)
  have hT : (⟨h, g, d, t, os⟩ : Shared).TypeIs (.ref C) "type" := ⟨_, hC, rfl⟩
  refine wpAny_call (codeAny_of_tree ?_)
  show wpAny _ _ (callAny (.ref C) _) _ _ _
  repeat (any_goals (first | assumption | (with_reducible refine wpAny_loadPart_at hC ?_) | wp_step))
  exact ⟨rfl, codeAny_call_builtin_at (Code.quiet_builtin _ (by decide +kernel)) entry_typeCall (wpAny_check_type_call_sub hC (exc_made x hz fun h' t' k q => hq h' t' k q))⟩
end
section
variable {M : Model} {A : Around} {E : Value → Shared → Prop} {s : Shared} {env : Env} {C : Addr}
/-- raise of a made exception -/
theorem raise_core {x : Sem Value} {Q : Flow → Shared → Prop} (hh : A.handled = none)
    (k : wpAny M A x (fun v s1 => ∃ e oe vs a0 oi, v = .ref e ∧ XAt s1.heap C oi ∧ s1.heap.get? e = some oe ∧ oe.cls = .ref C ∧ oe.data = .fields vs ∧ vs[0]? = some a0 ∧ vs[1]? = some .none ∧ E (.ref e) s1) E s) :
    wpAny M A (raiseStmt env (some x) none) Q E s := by
  unfold raiseStmt
  refine wpAny_bind (wpAny_mono k (fun v s1 z => ?_) fun _ _ y => y)
  obtain ⟨e, oe, vs, a0, oi, rfl, ⟨nm, q, N, bs, bm, hdct, sn, sub, ab, col, dd, k0, k1, k2, k3, k5, mN, hC, hN, hi, T⟩, he, hc, hd, h0, h1, hE⟩ := z
  have cB : (Value.ref C :: bm).contains (.type "BaseException") = true := by rw [List.contains_cons, T.hasType (show bmVE.contains (.type "BaseException") = true from rfl), Bool.or_true]
  obtain ⟨oc, od, oda, osl⟩ := oe
  dsimp only at hc hd
  subst hc hd
  obtain ⟨hp, g, d, tk, os⟩ := s1
  repeat (first | (with_reducible refine wpAny_loadPart_at he ?_) | (with_reducible refine wpAny_loadPart_at hC ?_) | (with_reducible refine wpAny_isSubtype_exc hC ?_; rw [cB]) | wp_step)
  rw [h1]
  refine wpAny_pure ?_
  rw [if_neg (by decide)]
  exact wpAny_pure (wpAny_raiseNew_none hh hE)
end
end L2

namespace L2
open PySem PySem.Spec PyProof.Rows L3

/-! ### raise -/
structure XC (K : PySem.W.Frag) (C : Addr) : Prop where
  exc : XCls K C
  kp : PySem.W.keepIn K (.ref C) = true
def tRaise (C : Addr) (W : WX) (t : TA) : TS := fun _ σ H => t σ H fun vs H1 => vs.length ≤ sizeLine ∧ W σ (.ref C) none H1
section
variable {X : Cx} {W : WX} {C : Addr} {x : Str} {np cpos pos : Pos} {e : Expr} {es : List Expr} {t : TA}
theorem ps_raise (hc : X.calm = true) (hL : Lifts X W) (xc : XC X.K C) (hg : Gl X x) (hm : X.mg x = some (.ref C)) (ha : PA X (e :: es) t) (hdb : (x == ("__debug__" : Str)) = false := by decide)
    (he : starEach (e :: es) X.env = (false, eval e X.env) :: starEach es X.env := by rfl) (hpl : (backTo cpos (starEach es X.env)).any (·.1) = false := by rfl) :
    PS X (.Raise (some (.Call (.Name x np) (e :: es) [] cpos)) none pos) (tRaise C W t) := by
  intro pins s σ H D I h
  rw [arm_exec_Raise]
  refine wpAny_bind (wpAny_standAt (raise_core (C := C) (I.ok.hd hc) (wpAny_bind (wpAny_mono ?_ (fun v s3 z => wpAny_bind (wpAny_standAt (wpAny_pure z))) fun _ _ y => y))))
  refine wpAny_Call_Name_kw (ld_glob I hg hm ?_ hdb)
  refine PySem.W.callWith_K (h₀ := X.base) I.ok.mod.kin xc.kp (thn (ha cpos pins s σ H _ I h) fun us s1 ⟨vs, H1, I1, r, hz, q⟩ => ⟨I1.kIn, ?_⟩) he hpl
  have xa := xc.exc.at I1.kIn
  obtain ⟨h1, g1, d1, t1, os1⟩ := s1
  refine exc_call xa (by rw [List.nil_append, ← r.length]; exact hz) fun h' t' k ge => ?_
  have I2 := I1.kept (t' := t1) k
  refine ⟨_, _, _, _, _, rfl, xa.keeps k, ge, rfl, rfl, rfl, rfl, hL _ _ _ _ _ _ _ (tb := none) ⟨I2, ⟨⟨_, _, _, ge, rfl, rfl, rfl, rfl, rfl⟩, fun T z => by cases z⟩, I1.fpOk (Nat.le_succ _) (I1.hok.fresh (Nat.le_succ _)), fun T z => by cases z⟩ q⟩
end

/-! ### does a clause match -/
section
variable {M : Model} {A : Around} {E : Value → Shared → Prop} {s : Shared}
theorem match_core {K : PySem.W.Frag} {ea : Addr} {c cv tb : Value} {dd : Option Addr} {b : Bool} {Q : Bool → Shared → Prop} (X : K.In s.heap) (he : ExcO s.heap ea c dd tb) (hb : PySem.W.kitCls K c cv = some b) (hx : PySem.W.kitCls K cv (.type "BaseException") = some true)
    (hq : Q b s) : wpAny M A (excMatches (.ref ea) cv) Q E s := by
  obtain ⟨l1, l2, l3⟩ := PySem.W.kit_cls (M := M) X hb
  obtain ⟨_, _, m3⟩ := PySem.W.kit_cls (M := M) X hx
  obtain ⟨oe, vs, a0, q, hc, _⟩ := he
  have nt := tc_notTuple
  unfold excMatches isInstance
  refine wpAny_bind (wpAny_bind (l1.at ?_))
  rw [nt]
  refine wpAny_pure ?_
  rw [if_neg Bool.false_ne_true]
  refine wpAny_bind (wpAny_pure ?_)
  simp only [List.forIn_cons, List.forIn_nil]
  unfold isExcClass
  refine wpAny_bind (wpAny_bind (wpAny_bind (wpAny_bind (l2.at ?_))))
  rw [if_pos rfl]
  refine m3.at ?_
  simp only [Bool.not_true, Bool.false_eq_true, if_false]
  refine wpAny_pure (wpAny_pure ?_)
  obtain ⟨hp, g, d, tk, os⟩ := s
  unfold typeOf
  refine wpAny_bind (wpAny_bind ?_)
  refine wpAny_loadPart_at q (wpAny_pure ?_)
  rw [hc]
  refine wpAny_bind (wpAny_bind (wpAny_bind (l3.at ?_)))
  cases b with
  | true => exact wpAny_pure (wpAny_pure (wpAny_pure hq))
  | false => exact wpAny_pure (wpAny_pure (wpAny_pure hq))
end

/-! ### the contexts of a try -/
abbrev Cx.body (X : Cx) (pn : List (Addr × Obj)) (E : Value → Shared → Prop) : Cx := { X with pn := pn, xe := E }
abbrev Cx.suite (X : Cx) (ea : Addr) (pn : List (Addr × Obj)) : Cx := { X with A := X.A.mark (some (.ref ea)), calm := false, pn := pn, xe := fun _ _ => False }
section
variable {X : Cx} {pins pl : List (Addr × Obj)} {σ : St} {H : Hp} {s : Shared} {ea : Addr} {E : Value → Shared → Prop}
theorem ok_body (ok : X.Ok) (pn : List (Addr × Obj)) (E : Value → Shared → Prop) : (X.body pn E).Ok :=
  ⟨ok.mod, ok.kind, ok.glob, ok.blt, ok.above, ok.inj, ok.has, ok.cab, ok.hd, ok.frames, ok.stk, ok.exf, ok.bs, ok.bsz, ok.noex, ok.exfs, ok.funs, ok.frf⟩
theorem ok_unbody {pn : List (Addr × Obj)} (ok : (X.body pn E).Ok) : X.Ok :=
  ⟨ok.mod, ok.kind, ok.glob, ok.blt, ok.above, ok.inj, ok.has, ok.cab, ok.hd, ok.frames, ok.stk, ok.exf, ok.bs, ok.bsz, ok.noex, ok.exfs, ok.funs, ok.frf⟩
theorem ok_suite (ok : X.Ok) (ea : Addr) (pn : List (Addr × Obj)) : (X.suite ea pn).Ok :=
  ⟨ok.mod, ok.kind, ok.glob, ok.blt, ok.above, ok.inj, ok.has, ok.cab, fun z => (by cases z), ok.frames, ok.stk, ok.exf, ok.bs, ok.bsz, ok.noex, ok.exfs, ok.funs, ok.frf⟩
theorem Inv.body (I : Inv X pins σ H s) (E : Value → Shared → Prop) : Inv (X.body (X.pn ++ pins) E) [] σ H s :=
  ⟨ok_body I.ok _ E, I.os, I.bare, I.base, I.loc, I.cell, I.free, I.freeC, fun p hp => I.pin p (by simpa using hp), I.hok, I.len⟩
theorem Inv.unbody (I : Inv (X.body (X.pn ++ pins) E) pl σ H s) : Inv X pins σ H s :=
  ⟨ok_unbody I.ok, I.os, I.bare, I.base, I.loc, I.cell, I.free, I.freeC, fun p hp => I.pin p (List.mem_append_left _ hp), I.hok, I.len⟩
theorem Inv.suite (I : Inv X pins σ H s) (ea : Addr) : Inv (X.suite ea (X.pn ++ pins)) [] σ H s :=
  ⟨ok_suite I.ok ea _, I.os, I.bare, I.base, I.loc, I.cell, I.free, I.freeC, fun p hp => I.pin p (by simpa using hp), I.hok, I.len⟩
theorem Inv.unsuite (ok : X.Ok) (I : Inv (X.suite ea (X.pn ++ pins)) pl σ H s) : Inv X pins σ H s :=
  ⟨ok, I.os, I.bare, I.base, I.loc, I.cell, I.free, I.freeC, fun p hp => I.pin p (List.mem_append_left _ hp), I.hok, I.len⟩
theorem FpOk.body {b : Addr} (f : FpOk (X.body (X.pn ++ pins) E) pl H b) : FpOk X pins H b :=
  ⟨f.1, f.2.1, f.2.2.1, f.2.2.2.1, f.2.2.2.2.1, fun p hp => f.2.2.2.2.2 p (List.mem_append_left _ hp)⟩
theorem SP.unbody {D : Ends} {f : Flow} (h : SP (X.body (X.pn ++ pins) E) pl D f s) : SP X pins D f s := by
  cases f with
  | next => obtain ⟨σ', H', I, q⟩ := h; exact ⟨σ', H', I.unbody, q⟩
  | brk => obtain ⟨σ', H', I, q⟩ := h; exact ⟨σ', H', I.unbody, q⟩
  | cont => obtain ⟨σ', H', I, q⟩ := h; exact ⟨σ', H', I.unbody, q⟩
  | ret u => obtain ⟨v, σ', H', I, r, q⟩ := h; exact ⟨v, σ', H', I.unbody, r, q⟩

/-- the exception is looked at in this frame -/
theorem look_core {c : Value} {dd tb : Option Addr} {Q : Unit → Shared → Prop} {E' : Value → Shared → Prop} (hs : X.stack = X.env :: X.outer) (hf : X.env.frame = some X.env.locals) (x : XState X pins σ H s ea c dd tb)
    (k : ∀ h' T, Inv X pins σ H { s with heap := h' } → Fly h' ea c dd (some T) → FpOk X pins H ea → FpOk X pins H T → Q () { s with heap := h' }) :
    wpAny (model X.prog X.w) X.A (noteFrame (.ref ea) X.env) (fun _ s2 => wpAny (model X.prog X.w) X.A (setFlight (.ref ea) none) Q E' s2) E' s := by
  have I := x.inv
  have st := I.stack
  have fr := I.ok.frames
  rw [hs] at st fr
  refine note_core (base := X.base) fr st hf x.fly fun h1 T k1 k2 hT hd1 => ?_
  refine flight_core hd1 fun h2 k3 fl2 => ?_
  have nsT : ∀ {b : Addr} {o : Obj}, s.heap.get? b = some o → b ≠ T := fun e z => absurd (Nat.lt_of_lt_of_le (Heap.lt_size e) hT) (by rw [z]; exact Nat.lt_irrefl _)
  have hch : ∀ b ∈ ea :: tb.toList, FpOk X pins H b := fun b hb => by
    rcases List.mem_cons.mp hb with z | z
    · rw [z]; exact x.fe
    · cases tb with
      | none => simp at z
      | some T0 =>
        have z' : b = T0 := by simpa using z
        rw [z']; exact x.ft T0 rfl
  have n1 : ∀ {b : Addr}, b ∉ ea :: tb.toList → b ≠ ea := fun h z => h (by rw [z]; exact List.mem_cons_self)
  have n2 : ∀ {b : Addr}, b ∉ ea :: tb.toList → tb ≠ some b := fun h z => h (List.mem_cons_of_mem _ (by rw [z]; simp))
  have kk : ∀ b o, b ∉ frs X.stack → b ∉ ea :: tb.toList → s.heap.get? b = some o → h2.get? b = some o := fun b o hb hc e => k3 b o (nsT e) (k1 b o (by rw [← hs]; exact hb) (n1 hc) (n2 hc) e)
  have ks : ∀ b o, b ∉ ea :: tb.toList → s.heap.get? b = some o → ∃ sl, h2.get? b = some { o with slots := sl } := fun b o hc e => by
    obtain ⟨sl, q⟩ := k2 b o e (n1 hc) (n2 hc)
    exact ⟨sl, k3 b _ (nsT e) q⟩
  have I2 : Inv X pins σ H { s with heap := h2 } := I.call (g' := s.gens) (d' := s.drawn) (t' := s.toks) (ch := ea :: tb.toList)
    ⟨fun b o e n hb hx => kk b o hb hx e, fun b o e n hb hx => ks b o hx e, fun _ _ _ n _ => n, fun b o e hx => let ⟨sl, q⟩ := ks b o hx e; ⟨_, q⟩, fun _ _ e => e, fun _ _ _ e => e, fun b ps e => ⟨#[], by rw [e]; simp⟩⟩
    (hok_slots I (fun b hb => (hch b hb).1) kk) I.bare fun b hb => ⟨(hch b hb).2.2.2.1, (hch b hb).2.1, (hch b hb).2.2.2.2.1, (hch b hb).2.2.2.2.2⟩
  exact k h2 T I2 fl2 x.fe (I.fpOk hT (I.hok.fresh hT))
end

/-! ### the exception as an object -/
def exo (ea : Addr) (c : Value) (dd : Option Addr) : HO := .ext fun h => ∃ o vs, h.get? ea = some o ∧ o.cls = c ∧ o.dict = dd ∧ o.data = .fields vs
theorem exo_ok {P : Program} {w : World} {H : Hp} {h : Heap} {ea : Addr} {c tb : Value} {dd : Option Addr} (x : ExcO h ea c dd tb) : ObjOk P w H h ea (exo ea c dd) := by
  obtain ⟨oe, vs, a0, q, hc, hdd, hd, _⟩ := x
  exact ⟨⟨oe, vs, q, hc, hdd, hd⟩, ⟨oe, q⟩, fun h1 h2 ⟨o, vs, e, r⟩ k => ⟨o, vs, k o e, r⟩⟩
section
variable {X : Cx} {pins : List (Addr × Obj)} {σ : St} {H : Hp} {s : Shared}
/-- the name of an except clause goes -/
theorem goes_ok {M : Model} {A : Around} {E : Value → Shared → Prop} {i : Nat} {n : Str} {pos : Pos} {Q : Unit → Shared → Prop} (I : Inv X pins σ H s) (hN : X.N.Nodup) (hi : X.N[i]? = some n) (hl : X.env.scope.names.lookup n = some .local)
    (k : ∀ s', Inv X pins (σ.set i none) H s' → Q () s') : wpAny M A (do bindName X.env n .none; unbindBehindTheSuite X.env n pos) Q E s := by
  obtain ⟨m, hn, hlo⟩ := id I.loc
  have hcls : (X.env.scope.kind == .class || (X.env.scope.kind == .module && X.env.locals != X.env.globals)) = false := by rw [I.ok.kind]; rfl
  have hil : i < σ.length := by rw [I.len]; exact (List.getElem?_eq_some_iff.mp hi).1
  refine wpAny_nameGoes_keeps hl hn hcls fun h' v hn' hs => k _ ?_
  have lt0 : ∀ {b : Addr} {o : Obj}, X.s₀.heap.get? b = some o → b ≠ X.env.locals := fun e => Nat.ne_of_lt (Nat.lt_of_lt_of_le (Heap.lt_size e) I.ok.above)
  refine ⟨I.ok, I.os, I.bare, ⟨fun b o e n hb hx => (hs.2 b (lt0 e)).trans (I.base.keep b o e n hb hx), fun b o e n hb hx => let ⟨sl, q⟩ := I.base.slot b o e n hb hx; ⟨sl, (hs.2 b (lt0 e)).trans q⟩, I.base.free,
    fun b o e hx => let ⟨o', q⟩ := I.base.there b o e hx; ⟨o', (hs.2 b (lt0 e)).trans q⟩, I.base.tups, I.base.frzs, I.base.tbls⟩, ⟨_, hn', fun j y v' e1 e2 e3 => ?_⟩, fun y c e => let ⟨u, z⟩ := I.cell y c e; ⟨u, z.sameBut hs (I.cne y c e)⟩, I.free, I.freeC,
    fun p hp => let ⟨e, n, ne, r⟩ := I.pin p hp; ⟨(hs.2 p.1 ne).trans e, n, ne, r⟩, fun b u e => ?_, by simpa using I.len⟩
  · by_cases hj : j = i
    · subst hj
      rw [List.getElem?_set_self hil] at e2
      cases e2
    · rw [List.getElem?_set_ne (Ne.symm hj)] at e2
      obtain ⟨u, r, q⟩ := hlo j y v' e1 e2 e3
      refine ⟨u, r, ?_⟩
      rcases q with ⟨kd, e⟩ | ⟨kd, c, e, z⟩
      · refine .inl ⟨kd, ?_⟩
        have ny : y ≠ n := fun z => hj (nodup_ix hN e1 (z ▸ hi))
        show (if y = n then v else m y) = some u
        rw [if_neg ny]
        exact e
      · exact .inr ⟨kd, c, e, z.sameBut hs (I.cne y c e)⟩
  · refine (I.hok b u e).stay (fun d w hd q => (hs.2 d fun z => ?_).trans q) (fun _ q => q) fun _ _ q => q
    have fr := I.free
    rw [← z] at fr
    rcases hd with y | y
    · rw [y, e] at fr; cases fr
    · rw [y] at fr; cases fr
end

/-! ### try: .. except C as n: .. -/
def tTryAs (K : PySem.W.Frag) (cv : Value) (i : Nat) (tb : WX → TS) (ts : TS) : TS := fun D σ H => tb (fun σ' c dd H' => PySem.W.kitCls K c cv = some true ∧
  ∀ ea, H' ea = none → ts ⟨fun σ2 H2 => D.nx (σ2.set i none) H2, D.rt, fun σ2 H2 => D.bk (σ2.set i none) H2, fun σ2 H2 => D.ct (σ2.set i none) H2⟩ (σ'.set i (some (.ref ea))) (upd H' ea (exo ea c dd))) D σ H
section
variable {X : Cx} {body : List Stmt} {b0 : Stmt} {suite : List Stmt} {x n : Str} {np hpos pos : Pos} {tb : WX → TS} {ts : TS} {cv : Value} {i : Nat}
theorem ps_tryAs (hs : X.stack = X.env :: X.outer) (hf : X.env.frame = some X.env.locals) (hx : X.ex = []) (hN : X.N.Nodup) (hi : X.N[i]? = some n) (hl : X.env.scope.names.lookup n = some .local)
    (hg : Gl X x) (hm : X.mg x = some cv) (hbx : PySem.W.kitCls X.K cv (.type "BaseException") = some true)
    (hb : ∀ (W : WX) (pn : List (Addr × Obj)) (E : Value → Shared → Prop), Lifts (X.body pn E) W → PassesOwn (model X.prog X.w) X.A X.env E → PSs (X.body pn E) body (tb W))
    (hsu : ∀ (ea : Addr) (pn : List (Addr × Obj)), PSs (X.suite ea pn) (b0 :: suite) ts) (hdb : (x == ("__debug__" : Str)) = false := by decide) :
    PS X (.Try body [.ExceptHandler (some (.Name x np)) (some n) (b0 :: suite) hpos] [] [] pos) (tTryAs X.K cv i tb ts) := by
  intro pins s σ H D I h
  have ok := I.ok
  refine wpAny_Try_except (wpAny_mono (hb _ (X.pn ++ pins) _ ?_ PassesOwn.looking [] s σ H D (I.body _) h) (fun f s1 q => ?_) fun _ _ y => y)
  · -- the exception
    intro pl σ1 H1 s1 ea c dd tb1 x1 hW
    obtain ⟨hk, hW⟩ := hW
    have x2 : XState X pins σ1 H1 s1 ea c dd tb1 := ⟨x1.inv.unbody, x1.fly, x1.fe.body, fun T z => (x1.ft T z).body⟩
    refine look_core hs hf x2 fun h' T I2 fl fe fT => ?_
    have I3 := I2.suite ea
    refine wpAny_handleBy_cons (codeAny_handlers_test (ld_glob (X := X.suite ea (X.pn ++ pins)) I3 hg hm ?_ hdb)) (by intro z; cases z)
    refine match_core I3.kIn fl.1 hk hbx (codeAny_handlers_suite_as ?_)
    refine flight_core (T := T) (fl := .none) ⟨fl.1, fl.2 T rfl⟩ fun h3 k3 fl3 => ?_
    have I4 : Inv X pins σ1 H1 { s1 with heap := h3 } := Inv.turned (s := { s1 with heap := h' }) (h' := h3) (t' := s1.toks) (it := T) I2 (fun b o hb e => k3 b o hb e) fT.1 fT.2.1 fT.2.2.2.1 fT.2.2.2.2.1 fT.2.2.2.2.2
    have ya : X.s₀.heap.objs.size ≤ ea := by
      rcases fe.2.2.2.1 with z | z
      · rw [hx] at z; exact absurd z (by simp)
      · exact z
    have I5 := Inv.adopt (o := exo ea c dd) I4 fe.1 ya fe.2.1 fe.2.2.2.2.1 fe.2.2.2.2.2 (exo_ok fl3.1)
    have I6 := I5.suite ea
    refine store_ok (X := X.suite ea (X.pn ++ pins)) (v := .ref ea) I6 hN hi (.inl hl) rfl (fun s4 I7 => ?_) (.inr hl)
    refine wpAny_mono (hsu ea (X.pn ++ pins) [] s4 _ _ _ I7 (hW ea fe.1)) (fun f s5 q => ?_) fun _ _ z => False.elim z
    cases f with
    | next => obtain ⟨σ', H', J, q⟩ := q; exact goes_ok (X := X) (Inv.unsuite ok J) hN hi hl fun s6 J6 => ⟨_, _, J6, q⟩
    | brk => obtain ⟨σ', H', J, q⟩ := q; exact goes_ok (X := X) (Inv.unsuite ok J) hN hi hl fun s6 J6 => ⟨_, _, J6, q⟩
    | cont => obtain ⟨σ', H', J, q⟩ := q; exact goes_ok (X := X) (Inv.unsuite ok J) hN hi hl fun s6 J6 => ⟨_, _, J6, q⟩
    | ret u => obtain ⟨v, σ', H', J, r, q⟩ := q; exact goes_ok (X := X) (Inv.unsuite ok J) hN hi hl fun s6 J6 => ⟨v, _, _, J6, r, q⟩
  · have q' := SP.unbody q
    cases f with
    | next => exact wpAny_execs_nil q'
    | brk => exact q'
    | cont => exact q'
    | ret u => exact q'
end
end L2

namespace L2
open PySem PySem.W PyProof.Rows

/-! ### sorting by asking, where no two keys are equal -/
section
variable {cmp : Nat → Nat → (Bool → Shared → Prop) → Shared → Prop} {r : Nat → Int} {n : Nat} {p : Array Nat} {s : Shared}
/-- the key of what stands at k -/
def rk (r : Nat → Int) (p : Array Nat) (k : Nat) : Int := r (p.getD k 0)
def Mixed (n : Nat) (p : Array Nat) : Prop := p.Perm (List.range n).toArray
def Rising (r : Nat → Int) (p : Array Nat) (m : Nat) : Prop := ∀ i j, i < j → j < m → rk r p i < rk r p j
theorem Mixed.size (g : Mixed n p) : p.size = n := by
  have := g.size_eq
  simpa using this
theorem Mixed.lt (g : Mixed n p) {k : Nat} (hk : k < n) : p.getD k 0 < n := by
  have hs := g.size
  have hm : p[k]'(by omega) ∈ p := Array.getElem_mem _
  have := (g.mem_iff).mp hm
  simp only [Array.getD, show k < p.size by omega, dif_pos]
  simpa using this
theorem Mixed.ne (g : Mixed n p) {i j : Nat} (hi : i < n) (hj : j < n) (h : i ≠ j) : p.getD i 0 ≠ p.getD j 0 := by
  have hs := g.size
  have nd : p.toList.Nodup := (Array.perm_iff_toList_perm.mp g).nodup_iff.mpr (by simpa using List.nodup_range)
  intro e
  simp only [Array.getD, show i < p.size by omega, show j < p.size by omega, dif_pos] at e
  have e' : p.toList[i]'(by simpa using (by omega : i < p.size)) = p.toList[j]'(by simpa using (by omega : j < p.size)) := by simpa using e
  rcases Nat.lt_or_gt_of_ne h with q | q
  · exact List.pairwise_iff_getElem.mp nd i j _ _ q e'
  · exact List.pairwise_iff_getElem.mp nd j i _ _ q e'.symm
variable (hr : ∀ i j, i < n → j < n → r i = r j → i = j) (hc : ∀ i j (C : Bool → Shared → Prop), i < n → j < n → i ≠ j → C (decide (r i < r j)) s → cmp i j C s)
include hr hc
theorem rk_ne (g : Mixed n p) {i j : Nat} (hi : i < n) (hj : j < n) (h : i ≠ j) : rk r p i ≠ rk r p j := fun e => g.ne hi hj h (hr _ _ (g.lt hi) (g.lt hj) e)
theorem asc_wp (g : Mixed n p) {Q : Nat → Shared → Prop} : ∀ f m, 1 ≤ m → m + f ≤ n → Rising r p m → (∀ m', m ≤ m' → m' ≤ m + f → Rising r p m' → (m' < m + f → rk r p m' < rk r p (m' - 1)) → Q m' s) → (kas_asc p f m).kasWp cmp Q s
  | 0, m, h1, h2, ri, k => k m (Nat.le_refl _) (Nat.le_refl _) ri fun h => absurd h (Nat.lt_irrefl _)
  | f + 1, m, h1, h2, ri, k => by
    refine hc _ _ _ (g.lt (by omega)) (g.lt (by omega)) (g.ne (by omega) (by omega) (by omega)) ?_
    by_cases hb : r (p.getD m 0) < r (p.getD (m - 1) 0)
    · simp only [hb, decide_true, if_true]
      exact k m (Nat.le_refl _) (by omega) ri fun _ => hb
    · simp only [hb, decide_false, Bool.false_eq_true, if_false]
      refine asc_wp g f (m + 1) (by omega) (by omega) (fun i j hij hj => ?_) fun m' a b c d => k m' (by omega) (by omega) c fun h => d (by omega)
      by_cases e : j = m
      · subst e
        have h3 : rk r p (j - 1) < rk r p j := by
          have := rk_ne hr hc g (i := j - 1) (j := j) (by omega) (by omega) (by omega)
          unfold rk at this ⊢
          omega
        by_cases e2 : i = j - 1
        · subst e2; exact h3
        · have := ri i (j - 1) (by omega) (by omega)
          omega
      · exact ri i j hij (by omega)
theorem desc_wp (g : Mixed n p) {Q : Array Nat × Nat × Nat → Shared → Prop} : ∀ f m, 1 ≤ m → m + f ≤ n → (∀ i j, i < j → j < m → rk r p j < rk r p i) →
    (∀ m', m ≤ m' → m' ≤ m + f → (∀ i j, i < j → j < m' → rk r p j < rk r p i) → Q (p, m', 0) s) → (kas_desc f p m 0).kasWp cmp Q s
  | 0, m, h1, h2, ri, k => k m (Nat.le_refl _) (Nat.le_refl _) ri
  | f + 1, m, h1, h2, ri, k => by
    refine hc _ _ _ (g.lt (by omega)) (g.lt (by omega)) (g.ne (by omega) (by omega) (by omega)) ?_
    by_cases hb : r (p.getD m 0) < r (p.getD (m - 1) 0)
    · simp only [hb, decide_true, if_true]
      rw [if_neg (by omega)]
      refine desc_wp g f (m + 1) (by omega) (by omega) (fun i j hij hj => ?_) fun m' a b c => k m' (by omega) (by omega) c
      by_cases e : j = m
      · subst e
        have h3 : rk r p j < rk r p (j - 1) := hb
        by_cases e2 : i = j - 1
        · subst e2; exact h3
        · have := ri i (j - 1) (by omega) (by omega)
          omega
      · exact ri i j hij (by omega)
    · simp only [hb, decide_false, Bool.false_eq_true, if_false]
      refine hc _ _ _ (g.lt (by omega)) (g.lt (by omega)) (g.ne (by omega) (by omega) (by omega)) ?_
      have h3 : r (p.getD (m - 1) 0) < r (p.getD m 0) := by
        have := rk_ne hr hc g (i := m - 1) (j := m) (by omega) (by omega) (by omega)
        unfold rk at this
        omega
      simp only [h3, decide_true, if_true]
      exact k m (Nat.le_refl _) (by omega) ri
theorem rev_rk (g : Mixed n p) {m k : Nat} (hm : m ≤ n) (hk : k < m) : rk r (kas_rev p 0 m) k = rk r p (m - 1 - k) := by
  have hs := g.size
  unfold rk kas_rev
  rw [Array.getD_eq_getD_getElem?, getElem?_mirror_all (by omega), if_pos ⟨Nat.zero_le _, hk⟩, Array.getD_eq_getD_getElem?]
  congr 3
  omega
theorem tail3_wp (g : Mixed n p) {m : Nat} (h1 : 1 ≤ m) (hm : m ≤ n) (ri : ∀ i j, i < j → j < m → rk r p j < rk r p i) {Q : Nat × Array Nat → Shared → Prop}
    (k : ∀ m' p', 1 ≤ m' → m' ≤ n → Mixed n p' → Rising r p' m' → Q (m', p') s) : (kas_tail3 m n p).kasWp cmp Q s := by
  unfold kas_tail3
  rw [KasT.kasWp_bind]
  have g' : Mixed n (kas_rev p 0 m) := (mirror_perm _ _ _ _).trans g
  refine asc_wp hr hc g' _ _ h1 (by omega) (fun i j hij hj => ?_) fun m' a b c _ => k m' _ (by omega) (by omega) g' c
  rw [rev_rk hr hc g hm (by omega), rev_rk hr hc g hm hj]
  exact ri _ _ (by omega) (by omega)
theorem count_wp (g : Mixed n p) (h1 : 1 ≤ n) {Q : Nat × Array Nat → Shared → Prop} (k : ∀ m' p', 1 ≤ m' → m' ≤ n → Mixed n p' → Rising r p' m' → Q (m', p') s) : (kas_count n p).kasWp cmp Q s := by
  unfold kas_count
  rw [KasT.kasWp_bind]
  refine asc_wp hr hc g _ _ (Nat.le_refl _) (by omega) (fun i j hij hj => absurd hij (by omega)) fun m a b ri hb => ?_
  by_cases e : m = n
  · rw [if_pos (by simpa using e)]
    exact k m p (by omega) (by omega) g ri
  · rw [if_neg (by simpa using e)]
    by_cases h2 : m > 1
    · rw [if_pos h2]
      refine hc _ _ _ (g.lt (by omega)) (g.lt (by omega)) (g.ne (by omega) (by omega) (by omega)) ?_
      have h3 := ri 0 (m - 1) (by omega) (by omega)
      unfold rk at h3
      simp only [h3, decide_true, if_true]
      exact k m p (by omega) (by omega) g ri
    · rw [if_neg h2]
      have hm : m = 1 := by omega
      subst hm
      have h3 := hb (by omega)
      unfold kas_descPart
      rw [KasT.kasWp_bind]
      refine desc_wp hr hc g _ _ (by omega) (by omega) (fun i j hij hj => ?_) fun m' a b ri' => ?_
      · have : i = 0 ∧ j = 1 := by omega
        rw [this.1, this.2]
        exact h3
      · simp only [Nat.lt_irrefl, gt_iff_lt, if_false]
        exact tail3_wp hr hc g (by omega) (by omega) ri' k
theorem place_wp (g : Mixed n p) {k : Nat} (hk : k < n) (ri : Rising r p k) {Q : Nat → Shared → Prop} : ∀ f l u, l ≤ u → u ≤ k → u - l ≤ f → (∀ i, i < l → rk r p i < rk r p k) → (∀ i, u ≤ i → i < k → rk r p k < rk r p i) →
    (∀ l, l ≤ k → (∀ i, i < l → rk r p i < rk r p k) → (∀ i, l ≤ i → i < k → rk r p k < rk r p i) → Q l s) → (kas_place p k f l u).kasWp cmp Q s
  | 0, l, u, h1, h2, h3, a, b, q => q l (by omega) a fun i hi hk => b i (by omega) hk
  | f + 1, l, u, h1, h2, h3, a, b, q => by
    unfold kas_place
    by_cases e : l ≥ u
    · rw [if_pos e]
      exact q l (by omega) a fun i hi hk => b i (by omega) hk
    · rw [if_neg e]
      refine hc _ _ _ (g.lt hk) (g.lt (by omega)) (g.ne hk (by omega) (by omega)) ?_
      have hm : (l + u) / 2 < u := by omega
      have hl : l ≤ (l + u) / 2 := by omega
      by_cases hb : r (p.getD k 0) < r (p.getD ((l + u) / 2) 0)
      · simp only [hb, decide_true, if_true]
        refine place_wp g hk ri f l ((l + u) / 2) hl (by omega) (by omega) a (fun i hi hk' => ?_) q
        by_cases e2 : i = (l + u) / 2
        · subst e2; exact hb
        · have := ri ((l + u) / 2) i (by omega) hk'
          have hb' : rk r p k < rk r p ((l + u) / 2) := hb
          omega
      · simp only [hb, decide_false, Bool.false_eq_true, if_false]
        have hb' : rk r p ((l + u) / 2) < rk r p k := by
          have := rk_ne hr hc g (i := (l + u) / 2) (j := k) (by omega) hk (by omega)
          unfold rk at this ⊢
          omega
        refine place_wp g hk ri f ((l + u) / 2 + 1) u (by omega) h2 (by omega) (fun i hi => ?_) b q
        by_cases e2 : i = (l + u) / 2
        · subst e2; exact hb'
        · have := ri i ((l + u) / 2) (by omega) (by omega)
          omega
theorem bub_rk (g : Mixed n p) {k l : Nat} (hk : k < n) (hl : l ≤ k) (j : Nat) : rk r (bubble p k (k - l)) j = if j = l then rk r p k else if l < j ∧ j ≤ k then rk r p (j - 1) else rk r p j := by
  have hs := g.size
  unfold rk
  rw [Array.getD_eq_getD_getElem?, getElem?_bubble (by omega) _ (by omega), show k - (k - l) = l by omega]
  simp only [Array.getD_eq_getD_getElem?]
  repeat' split
  all_goals first | rfl | (exfalso; omega)
theorem bin_wp {Q : Array Nat → Shared → Prop} (q : ∀ p', Mixed n p' → Rising r p' n → Q p' s) : ∀ f k (p : Array Nat), Mixed n p → k + f = n → Rising r p k → (kas_bin f p k).kasWp cmp Q s
  | 0, k, p, g, h, ri => q p g (by have : k = n := by omega
                                   rwa [this] at ri)
  | f + 1, k, p, g, h, ri => by
    unfold kas_bin
    rw [KasT.kasWp_bind]
    refine place_wp hr hc g (by omega) ri k 0 k (Nat.zero_le _) (Nat.le_refl _) (by omega) (fun i hi => absurd hi (by omega)) (fun i hi hk => absurd hk (by omega)) fun l hl a b => ?_
    refine bin_wp q f (k + 1) _ ((bubble_perm _ _ _).trans g) (by omega) fun i j hij hj => ?_
    rw [bub_rk hr hc g (by omega) hl, bub_rk hr hc g (by omega) hl]
    by_cases e1 : i = l
    · rw [if_pos e1, if_neg (by omega), if_pos (by omega)]
      exact b _ (by omega) (by omega)
    · rw [if_neg e1]
      by_cases e2 : j = l
      · rw [if_pos e2, if_neg (by omega)]
        exact a i (by omega)
      · rw [if_neg e2]
        by_cases h3 : l < i ∧ i ≤ k
        · rw [if_pos h3, if_pos (by omega)]
          exact ri _ _ (by omega) (by omega)
        · rw [if_neg h3]
          by_cases h4 : l < j ∧ j ≤ k
          · rw [if_pos h4]
            by_cases e5 : i = j - 1
            · omega
            · exact ri _ _ (by omega) (by omega)
          · rw [if_neg h4]
            exact ri _ _ hij (by omega)
theorem sort_wp (h1 : 1 ≤ n) {Q : Array Nat → Shared → Prop} (q : ∀ p', Mixed n p' → Rising r p' n → Q p' s) : (kas_sort n).kasWp cmp Q s := by
  unfold kas_sort
  rw [KasT.kasWp_bind]
  refine count_wp hr hc (Array.Perm.refl _) h1 fun m p' a b g ri => ?_
  dsimp only
  by_cases h : m < n
  · rw [if_pos h]
    exact bin_wp hr hc q _ _ _ g (by omega) (by rw [show max m 1 = m by omega]; exact ri)
  · rw [if_neg h]
    have : m = n := by omega
    rw [this] at ri
    exact q p' g ri
end
end L2

namespace L2
open PySem PySem.Spec PySem.W PyProof.Rows

theorem ns_uniq {h : Heap} {a : Addr} {m m' : Str → Option Value} (x : h.Ns a m) (y : h.Ns a m') : m = m' := by
  obtain ⟨o, es, ep, e, d, _, f⟩ := x
  obtain ⟨o', es', ep', e', d', _, f'⟩ := y
  rw [e] at e'; cases e'
  rw [d] at d'; cases d'
  funext n
  exact (f n).symm.trans (f' n)

section
variable {X : Cx} {pins : List (Addr × Obj)} {σ : St} {H : Hp} {s : Shared}
/-- all stays but the frame's object, whose names stay -/
theorem Inv.regrown {h' : Heap} {m : Str → Option Value} {t' : Nat} {d' : Drawn} (I : Inv X pins σ H s) (h1 : s.heap.Ns X.env.locals m) (h2 : h'.Ns X.env.locals m) (k : ∀ b o, b ≠ X.env.locals → s.heap.get? b = some o → h'.get? b = some o) :
    Inv X pins σ H { s with heap := h', drawn := d', toks := t' } := by
  refine I.step (g' := s.gens) (d' := d') (ch := []) (fun _ z => nomatch z) (fun b o hL _ _ e _ => k b o hL e) (fun b o hL _ _ e _ => ⟨o.slots, k b o hL e⟩) (fun _ _ _ _ n => n) (fun b o _ e => ?_) (fun _ _ e => e) (fun _ _ _ e => e)
    (fun b ps e => ⟨#[], by rw [e]; simp⟩) (fun m' hm => by rw [ns_uniq hm h1]; exact h2) (fun b u e => ?_) I.bare
  · by_cases z : b = X.env.locals
    · obtain ⟨o', _, _, q, _⟩ := h2
      exact ⟨o', by rw [z]; exact q⟩
    · exact ⟨o, k b o z e⟩
  · refine (I.hok b u e).stay (fun d v hd q => k d v (fun z => ?_) q) (fun _ q => q) fun _ _ q => q
    have fr := I.free
    rw [← z] at fr
    rcases hd with y | y
    · rw [y, e] at fr; cases fr
    · rw [y] at fr; cases fr
/-- the keys may be asked: r tells their order -/
structure Srt (P : Program) (w : World) (L : Addr) (h : Heap) (vs : List Value) (r : Nat → Int) : Prop where
  small : vs.length < 64
  inj : ∀ i j, i < vs.length → j < vs.length → r i = r j → i = j
  ask : 2 ≤ vs.length → ∃ κ, ∀ (A : Around) (s' : Shared), (∀ b o, b ≠ L → h.get? b = some o → s'.heap.get? b = some o) →
    (∀ Q : SortKind → Shared → Prop, Q κ s' → wpAny (model P w) A (keyKind' vs.toArray) Q (fun _ _ => False) s') ∧
    ∀ i j (C : Bool → Shared → Prop), i < vs.length → j < vs.length → i ≠ j → C (decide (r i < r j)) s' → kas_ask P w A κ vs i j C s'
/-- the row that sorting makes -/
def SortOf (ys : List V) (r : Nat → Int) (zs : List V) : Prop := ∃ p : Array Nat, Mixed ys.length p ∧ Rising r p ys.length ∧ zs = p.toList.map fun i => ys.getD i .non
theorem sort_short {P : Program} {w : World} {A : Around} {E : Value → Shared → Prop} {a : Addr} {vs : List Value} {n : Nat} {R : PySem.Fin → Shared → Prop} (ho : s.heap.get? a = some (seqObj "list" vs.toArray n)) (h1 : vs.length < 2)
    (k : ∀ h' e, (∀ b o, b ≠ a → s.heap.get? b = some o → h'.get? b = some o) → h'.get? a = some (seqObj "list" vs.toArray e) → R (.done (.ret .none)) { s with heap := h' }) :
    wpAny (model P w) A (Builtin.«list.sort» ⟨[.ref a], []⟩) R E s := by
  have la := Heap.lt_size ho
  have hn : vs.toArray.size < 2 := by rw [List.size_toArray]; exact h1
  have zs : ∀ m : Nat, m < 2 → m ≤ sizeLine := fun m hm => by rw [sizeLine_eq]; omega
  obtain ⟨e1, q1⟩ : ∃ e1, (s.heap.update a (Obj.mapSeq fun _ => (#[] : Array Value))).get? a = some (seqObj "list" #[] e1) := ⟨_, get?_update_seq ho fun _ => #[]⟩
  rw [list_sort_plain]
  refine wpAny_bind (listItems_at ho rfl (wpAny_bind (listUpdate_at ho rfl (wpAny_bind (seqEpoch_at q1 rfl (wpAny_bind (wpAny_newTuple (wpAny_bind (wpAny_newList (wpAny_holding ?_) (Nat.zero_le _))) (zs _ (by simpa using h1)))))) (zs _ (by simpa using h1)) (Nat.zero_le _))))
  have q3 := Heap.get?_push_of_some (seqObj "list" #[] 0) (Heap.get?_push_of_some (seqObj "tuple" vs.toArray 0) q1)
  dsimp only
  rw [if_pos hn, if_pos hn]
  refine wpAny_bind (wpAny_pure ?_)
  rw [StateT.run_pure]
  refine wpAny_bind (wpAny_pure ?_)
  dsimp only
  have eo : (arrOf (SortSt.mk' general' (vs.toArray.zip vs.toArray) #[] 7 none)).map (·.2) = vs.toArray := by
    show (vs.toArray.zip vs.toArray).map (·.2) = vs.toArray
    apply Array.toList_inj.mp
    rw [Array.toList_map, Array.toList_zip]
    show (vs.zip vs).map Prod.snd = vs
    rw [List.map_snd_zip (Nat.le_refl _)]
  rw [eo]
  refine wpAny_bind (seqEpoch_at q3 rfl (wpAny_bind (listUpdate_at q3 rfl ?_ (Nat.zero_le _) (Nat.le_trans (zs _ (by simpa using h1)) (Nat.le_succ _)))))
  rw [if_neg (by simp)]
  refine wpAny_pure (k _ _ (fun b o hb e => ?_) (get?_update_seq q3 fun _ => vs.toArray))
  rw [Heap.get?_update_ne _ _ _ _ hb]
  exact Heap.get?_push_of_some _ (Heap.get?_push_of_some _ (by rw [Heap.get?_update_ne _ _ _ _ hb]; exact e))

theorem vals_pick {ys : List V} {vs : List Value} (rv : Vals ys vs) : ∀ l : List Nat, Vals (l.map fun i => ys.getD i .non) (l.map fun i => vs.getD i Value.none)
  | [] => .nil
  | i :: l => by
    refine .cons ?_ (vals_pick rv l)
    dsimp only
    rw [List.getD_eq_getElem?_getD, List.getD_eq_getElem?_getD]
    cases e : ys[i]? with
    | none => rw [rv.none_of e]; rfl
    | some y => obtain ⟨u, e', q⟩ := rv.get e; rw [e']; exact q
theorem pick_range (ys : List V) : (List.range ys.length).map (fun i => ys.getD i .non) = ys := by
  apply List.ext_getElem
  · simp
  · intro i h1 h2
    simp [h2]
theorem mixed_len {n : Nat} {p : Array Nat} (g : Mixed n p) : p.toList.length = n := by rw [Array.length_toList, g.size]
/-- sorted(x): x's items, whatever it is, are told by hcol -/
theorem sorted_wp {x : Value} {Q : VK} (hcol : wpAny (model X.prog X.w) X.A.in1 (collect x) (fun vs s1 => ∃ ys r, Inv X pins σ H s1 ∧ Vals ys vs ∧ Srt X.prog X.w X.env.locals s1.heap vs r ∧ ∀ l zs, H l = none → SortOf ys r zs → Q (.ref l) (upd H l (.lst zs))) X.xe s) :
    wpAny (model X.prog X.w) X.A (call (.builtin "sorted") [x]) (EP X pins σ Q) X.xe s := by
  refine Calls.call_function_entry kind_sorted plain_sorted entry_sorted (args_sorted1 _) ?_
  unfold Builtin.«sorted»
  refine wpAny_bind (wpAny_pure (a := ()) (wpAny_bind (wpAny_mono hcol (fun vs s1 hq => ?_) fun _ _ z => z)))
  obtain ⟨ys, r, I, rv, S, q⟩ := hq
  have hlen := rv.length
  have line : vs.length ≤ sizeLine := by have := S.small; rw [sizeLine_eq]; omega
  refine wpAny_bind (wpAny_newList ?_ line)
  obtain ⟨hp1, g, d, tk, os⟩ := s1
  dsimp only at I S ⊢
  have q0 : (hp1.push (seqObj "list" vs.toArray 0)).get? hp1.objs.size = some (seqObj "list" vs.toArray 0) := Heap.get?_push_size _ rfl
  obtain ⟨m, F0⟩ := I.fr
  have hL : X.env.locals < hp1.objs.size := I.lt
  have hb : X.base.objs.size ≤ hp1.objs.size := Nat.le_trans I.ok.bsz I.sz
  have fin : ∀ (h2 : Heap) (c : Nat) (zs : List V) (out : List Value), h2.Ns X.env.locals m → (∀ b o, b ≠ X.env.locals → hp1.get? b = some o → h2.get? b = some o) → h2.get? hp1.objs.size = some (seqObj "list" out.toArray c) →
      Vals zs out → zs.length ≤ sizeLine → SortOf ys r zs → EP X pins σ Q (.ref hp1.objs.size) ⟨h2, g, d, tk, os⟩ := fun h2 c zs out n2 k2 e2 v2 l2 so => by
    have hn : H hp1.objs.size = none := I.hok.fresh (Nat.le_refl _)
    have f := I.fpOk (b := hp1.objs.size) (Nat.le_refl _) hn
    have J := Inv.regrown (s := ⟨hp1, g, d, tk, os⟩) (t' := tk) (d' := d) I F0.ns n2 k2
    exact ⟨.ref hp1.objs.size, _, Inv.adopt (o := .lst zs) J hn I.sz f.2.1 f.2.2.2.2.1 f.2.2.2.2.2 ⟨l2, out, c, v2, e2⟩, rfl, q _ _ hn so⟩
  refine wpAny_bind (wpAny_holding (wpAny_call_entry slot_list_sort ⟨_, q0, rfl⟩ entry_list_sort ?_ (args_list_sort _)))
  have kp : ∀ b o, hp1.get? b = some o → (hp1.push (seqObj "list" vs.toArray 0)).get? b = some o := fun b o e => Heap.get?_push_of_some _ e
  by_cases h2 : vs.length < 2
  · refine sort_short (s := ⟨hp1.push (seqObj "list" vs.toArray 0), g, d, tk, os⟩) q0 h2 fun h' e k' e' => ⟨_, rfl, wpAny_pure ⟨_, rfl, ?_⟩⟩
    have ne : ∀ b o, hp1.get? b = some o → b ≠ hp1.objs.size := fun b o z => Nat.ne_of_lt (Heap.lt_size z)
    refine fin h' e ys vs ?_ (fun b o _ z => k' b o (ne b o z) (kp b o z)) e' rv (by omega) ⟨(List.range ys.length).toArray, Array.Perm.refl _, fun i j hij hj => absurd hij (by omega), (pick_range ys).symm⟩
    obtain ⟨o, es, ep, z, rr⟩ := F0.ns
    exact ⟨o, es, ep, k' _ _ (ne _ _ z) (kp _ _ z), rr⟩
  · have h3 : 2 ≤ vs.length := by omega
    refine kat_list_sort (s := ⟨hp1.push (seqObj "list" vs.toArray 0), g, d, tk, os⟩) (h₀ := X.base) (L := X.env.locals) (m := m) (news := rest X.base (hp1.push (seqObj "list" vs.toArray 0)) X.env.locals hp1.objs.size) (F0.push _)
      (fun p hp => news_all p (List.mem_filter.mp hp).1) q0 (Nat.ne_of_gt hL) (Heap.get?_none_of_le hb) rest_ne h3 S.small fun e1 h' F1 N1 => ?_
    have keep : ∀ h3 : Heap, Fr X.base X.env.locals h3 m → News X.base X.env.locals h3 (rest X.base (hp1.push (seqObj "list" vs.toArray 0)) X.env.locals hp1.objs.size) → ∀ b o, b ≠ X.env.locals → hp1.get? b = some o → h3.get? b = some o := fun h3 F3 N3 b o hb z =>
      kept_of_news (fun b o z => kp b o (I.bk b o z)) F3 N3 b o hb (Nat.ne_of_lt (Heap.lt_size z)) (kp b o z)
    obtain ⟨κ, hκ⟩ := S.ask h3
    have hk := hκ X.A.in1.in1 ⟨h', g, d, tk, os⟩ (keep h' F1 fun p hp => N1 p (.tail _ hp))
    refine hk.1 _ (sort_wp (r := r) S.inj (fun i j C hi hj ne c => hk.2 i j C hi hj ne c) (by omega) fun p' gp ri => ?_)
    refine KasFin.intro F1 N1 (.head rest_ne) fun h4 c F4 N4 => ⟨_, rfl, wpAny_pure ⟨_, rfl, ?_⟩⟩
    refine fin h4 c (p'.toList.map fun i => ys.getD i .non) _ F4.ns (keep h4 F4 fun p hp => N4 p (.tail _ hp)) (N4 _ (.head _)).1 (vals_pick rv _) ?_ ⟨p', by rw [hlen]; exact gp, by rw [hlen]; exact ri, rfl⟩
    rw [List.length_map, mixed_len gp]
    exact line
end
end L2

namespace L2
open PySem PySem.Spec PySem.W PyProof.Rows

/-- the row in its order, by the pairs of key and thing -/
theorem sortOf_pairs {ps : List (Int × V)} {zs : List V} (h : SortOf (ps.map (·.2)) (fun i => (ps.map (·.1)).getD i 0) zs) : ∃ qs : List (Int × V), qs.Perm ps ∧ qs.Pairwise (fun a b => a.1 < b.1) ∧ zs = qs.map (·.2) := by
  obtain ⟨p, g, ri, rfl⟩ := h
  rw [List.length_map] at g ri
  have hlen := mixed_len g
  have gp := Array.perm_iff_toList_perm.mp g
  have er : (List.range ps.length).map (fun i => ps.getD i (0, .non)) = ps := by
    apply List.ext_getElem
    · simp
    · intro i h1 h2
      simp [h2]
  refine ⟨p.toList.map fun i => ps.getD i (0, .non), ?_, ?_, ?_⟩
  · have := gp.map fun i => ps.getD i (0, .non)
    simp only [List.toList_toArray] at this
    rw [er] at this
    exact this
  · rw [List.pairwise_iff_getElem]
    intro i j hi hj hij
    rw [List.length_map] at hi hj
    have := ri i j hij (by omega)
    unfold rk at this
    have hsz := g.size
    simp only [List.getElem_map, Array.getElem_toList]
    have e : ∀ k (hk : k < p.size), p.getD k 0 = p[k] := fun k hk => by simp [Array.getD, hk]
    rw [e i (by omega), e j (by omega)] at this
    have e2 : ∀ k, k < ps.length → (ps.map (·.1)).getD k 0 = (ps.getD k (0, .non)).1 := fun k hk => by simp [hk]
    have lt : ∀ k (hk : k < p.size), p[k] < ps.length := fun k hk => by
      have := g.lt (k := k) (by omega)
      rw [e k hk] at this
      exact this
    dsimp only at this
    rw [e2 _ (lt i (by omega)), e2 _ (lt j (by omega))] at this
    exact this
  · rw [List.map_map]
    refine List.map_congr_left fun i hi => ?_
    have hl : i < ps.length := by
      have := gp.mem_iff.mp hi
      simpa using this
    simp [hl]

section
variable {X : Cx}
end
end L2

namespace L2
open PySem PySem.Spec PySem.W PyProof.Rows

/-! ### a set's table: its places rise -/
def Asc (xs : Array Nat) : Prop := xs.toList.Pairwise (· < ·)
theorem asc_lt {xs : Array Nat} (h : Asc xs) {i k : Nat} (hik : i < k) (hk : k < xs.size) : xs[i] < xs[k] := by
  have := List.pairwise_iff_getElem.mp h i k (by simpa using Nat.lt_trans hik hk) (by simpa using hk) hik
  simpa using this
theorem below_go {xs : Array Nat} (h : Asc xs) (j : Nat) : ∀ f lo hi, lo ≤ hi → hi ≤ xs.size → hi - lo ≤ f → (∀ i (_ : i < xs.size), i < lo → xs[i] < j) → (∀ i (_ : i < xs.size), hi ≤ i → j ≤ xs[i]) →
    SetTable.below.go xs j f lo hi ≤ xs.size ∧ (∀ i (_ : i < xs.size), i < SetTable.below.go xs j f lo hi → xs[i] < j) ∧ ∀ i (_ : i < xs.size), SetTable.below.go xs j f lo hi ≤ i → j ≤ xs[i]
  | 0, lo, hi, h1, h2, h3, a, b => by
    have : lo = hi := by omega
    subst this
    exact ⟨h2, a, b⟩
  | f + 1, lo, hi, h1, h2, h3, a, b => by
    unfold SetTable.below.go
    by_cases hlt : lo < hi
    · rw [if_pos hlt]
      have hm : (lo + hi) / 2 < hi := by omega
      have hm2 : lo ≤ (lo + hi) / 2 := by omega
      have hms : (lo + hi) / 2 < xs.size := by omega
      have eg : xs.getD ((lo + hi) / 2) j = xs[(lo + hi) / 2] := by simp [Array.getD, hms]
      dsimp only
      rw [eg]
      by_cases hb : xs[(lo + hi) / 2] < j
      · rw [if_pos hb]
        refine below_go h j f _ _ (by omega) h2 (by omega) (fun i hi' hl => ?_) b
        by_cases z : i = (lo + hi) / 2
        · subst z; exact hb
        · exact Nat.lt_trans (asc_lt h (by omega) hms) hb
      · rw [if_neg hb]
        refine below_go h j f _ _ hm2 (by omega) (by omega) a (fun i hi' hl => ?_)
        by_cases z : i = (lo + hi) / 2
        · subst z; omega
        · have := asc_lt h (i := (lo + hi) / 2) (k := i) (by omega) hi'
          omega
    · rw [if_neg hlt]
      have : lo = hi := by omega
      subst this
      exact ⟨h2, a, b⟩
theorem below_spec {xs : Array Nat} (h : Asc xs) (j : Nat) : SetTable.below xs j ≤ xs.size ∧ (∀ i (_ : i < xs.size), i < SetTable.below xs j → xs[i] < j) ∧ ∀ i (_ : i < xs.size), SetTable.below xs j ≤ i → j ≤ xs[i] :=
  below_go h j xs.size 0 xs.size (Nat.zero_le _) (Nat.le_refl _) (Nat.le_refl _) (fun _ _ z => absurd z (Nat.not_lt_zero _)) fun i hi z => absurd hi (Nat.not_lt.mpr z)
/-- the place behind the i-th is the next one's -/
theorem below_next {xs : Array Nat} (h : Asc xs) {i : Nat} (hi : i < xs.size) : SetTable.below xs (xs[i] + 1) = i + 1 := by
  obtain ⟨h1, h2, h3⟩ := below_spec h (xs[i] + 1)
  rcases Nat.lt_trichotomy (SetTable.below xs (xs[i] + 1)) (i + 1) with z | z | z
  · have := h3 i hi (by omega)
    omega
  · exact z
  · have hs : i + 1 < xs.size := by omega
    have a := h2 (i + 1) hs z
    have b := asc_lt h (i := i) (k := i + 1) (by omega) hs
    omega
theorem below_zero {xs : Array Nat} (h : Asc xs) : SetTable.below xs 0 = 0 := by
  obtain ⟨h1, h2, h3⟩ := below_spec h 0
  rcases Nat.eq_zero_or_pos (SetTable.below xs 0) with z | z
  · exact z
  · have := h2 0 (by omega) z
    omega
theorem asc_insert {xs : Array Nat} {j : Nat} (h : Asc xs) (hn : xs[SetTable.below xs j]? ≠ some j) : Asc (SetTable.insertAt xs (SetTable.below xs j) j) := by
  obtain ⟨h1, h2, h3⟩ := below_spec h j
  unfold Asc
  rw [SetTable.toList_insertAt]
  have ht : ∀ x ∈ xs.toList.take (SetTable.below xs j), x < j := fun x hx => by
    obtain ⟨i, hi, e⟩ := List.getElem_of_mem hx
    rw [List.length_take, Array.length_toList] at hi
    rw [List.getElem_take, Array.getElem_toList] at e
    rw [← e]
    exact h2 i (by omega) (by omega)
  have hd : ∀ x ∈ xs.toList.drop (SetTable.below xs j), j < x := fun x hx => by
    obtain ⟨i, hi, e⟩ := List.getElem_of_mem hx
    rw [List.length_drop, Array.length_toList] at hi
    rw [List.getElem_drop, Array.getElem_toList] at e
    have hlt : SetTable.below xs j + i < xs.size := by omega
    have a := h3 (SetTable.below xs j + i) hlt (by omega)
    rw [← e]
    rcases Nat.lt_or_ge j xs[SetTable.below xs j + i] with z | z
    · exact z
    · exfalso
      have eq : xs[SetTable.below xs j + i] = j := by omega
      by_cases i0 : i = 0
      · subst i0
        exact hn (by rw [Array.getElem?_eq_getElem (by omega)]; exact congrArg some eq)
      · have b := h3 (SetTable.below xs j) (by omega) (Nat.le_refl _)
        have c := asc_lt h (i := SetTable.below xs j) (k := SetTable.below xs j + i) (by omega) hlt
        omega
  refine List.pairwise_append.mpr ⟨h.sublist (List.take_sublist _ _), List.pairwise_cons.mpr ⟨hd, h.sublist (List.drop_sublist _ _)⟩, fun x hx y hy => ?_⟩
  rcases List.mem_cons.mp hy with z | z
  · rw [z]; exact ht x hx
  · exact Nat.lt_trans (ht x hx) (hd y z)

/-- no dummies; led; where it is plain its places rise -/
structure TabOk (led : Bool) (t : SetTable) : Prop where
  dum : t.dummies = #[]
  led : t.led = led
  asc : t.plain = true → Asc t.place
theorem tab_fresh (led : Bool) : TabOk led (.fresh 0 0 led) := ⟨rfl, rfl, fun _ => .nil⟩
theorem tab_standIn {led : Bool} {t : SetTable} (h : TabOk led t) (n : Nat) : TabOk led (t.standIn n) := ⟨rfl, h.led, fun z => by cases z⟩
theorem tab_or {led : Bool} {t : SetTable} (h : TabOk led t) (n : Nat) : TabOk led (t.orStandIn n) := by
  unfold SetTable.orStandIn
  split
  · exact h
  · exact tab_standIn h n
theorem has_none (j : Nat) : SetTable.has #[] j = false := by simp [SetTable.has]
theorem probe_free {t : SetTable} {hash : Nat → Int} {h : Int} (hd : t.dummies = #[]) (hne : ∀ i, (hash i == h) = false) : ∀ f (p : SetTable.Probe) j d, p.dummy = none → SetTable.probe.go t hash h f p = some (.empty j d) → d = none ∧ t.slot j = .empty
  | 0, p, j, d, _, e => by cases e
  | f + 1, p, j, d, hp, e => by
    unfold SetTable.probe.go at e
    cases q : t.slot p.j with
    | empty =>
      rw [q] at e
      simp only [Option.some.injEq, SetTable.Met.empty.injEq] at e
      obtain ⟨rfl, rfl⟩ := e
      exact ⟨hp, q⟩
    | dummy =>
      exfalso
      unfold SetTable.slot at q
      rw [hd, has_none] at q
      dsimp only at q
      split at q
      · cases q
      · simp at q
    | live i =>
      rw [q] at e
      simp only [hne i, Bool.false_eq_true, if_false] at e
      refine probe_free hd hne f _ j d ?_ e
      unfold SetTable.advance
      split
      · exact hp
      · exact hp
theorem tab_put {led : Bool} {t : SetTable} {j : Nat} (h : TabOk led t) (hs : t.slot j = .empty) : TabOk led (t.put j).1 := by
  refine ⟨?_, h.led, fun z => ?_⟩
  · show (if SetTable.has t.dummies j then _ else t.dummies) = #[]
    rw [h.dum, has_none]
    rfl
  · refine asc_insert (h.asc z) fun e => ?_
    unfold SetTable.slot at hs
    dsimp only at hs
    rw [if_pos (by rw [e]; simp)] at hs
    cases hs
theorem tab_layNew {led : Bool} {t : SetTable} (ht : TabOk led t) (es : Array (Int × Value)) (h : Int) (x : Value) : TabOk led (layNew t es h x).2.1 := by
  unfold layNew
  split
  · rename_i slot wd e
    refine tab_or ?_ _
    unfold SetTable.freeSlot at e
    split at e
    · rename_i j d q
      obtain ⟨hd, hs⟩ := probe_free ht.dum (fun i => by simp; omega) _ _ _ _ rfl q
      subst hd
      simp only [Option.getD_none, Option.isSome_none, Option.some.injEq, Prod.mk.injEq] at e
      obtain ⟨rfl, _⟩ := e
      exact tab_put ht hs
    · cases e
  · exact tab_standIn ht _
theorem asc_laid {mask : Nat} (g : Nat → Option Nat) : Asc ((((List.range (mask + 1)).filterMap fun j => (g j).map (j, ·)).map (·.1)).toArray) := by
  unfold Asc
  rw [List.toList_toArray, List.map_filterMap]
  refine List.Pairwise.filterMap (R := (· < ·)) _ (fun a b hab x hx y hy => ?_) List.pairwise_lt_range
  cases ga : g a with
  | none => rw [ga] at hx; simp at hx
  | some u =>
    cases gb : g b with
    | none => rw [gb] at hy; simp at hy
    | some v =>
      rw [ga] at hx; rw [gb] at hy
      simp at hx hy
      omega
theorem tab_relay {led : Bool} {t : SetTable} (ht : TabOk led t) (es : Array (Int × Value)) (wanted : Nat) : TabOk led (relayAll t es wanted).2.1 := by
  unfold relayAll
  split
  · rename_i t' order e
    dsimp only
    split
    · unfold SetTable.relaid SetTable.laid at e
      cases o : SetTable.layClean (SetTable.sizeAbove wanted - 1) (es.map (·.1)) with
      | none => rw [o] at e; cases e
      | some owner =>
        rw [o] at e
        simp only [Option.bind_eq_bind, Option.bind_some, Option.pure_def, Option.some.injEq, Prod.mk.injEq] at e
        obtain ⟨rfl, _⟩ := e
        exact ⟨rfl, ht.led, fun _ => asc_laid _⟩
    · exact tab_standIn ht _
  · exact tab_standIn ht _
end L2

namespace L2
open PySem PySem.Spec PySem.W PyProof.Rows

/-! ### a set of ints, its table led -/
def byT (w : World) : Bool := w.params.followText "set-order"
def EntI (P : Program) (w : World) (e : Int × Value) (k : Int) : Prop := e.1 = (intKind P w).hash k ∧ ∃ t, e.2 = .int k t
def SetG (P : Program) (w : World) (h : Heap) (a : Addr) (ns : List Int) : Prop :=
  ∃ o es ep t ks, h.get? a = some o ∧ o.ExactSet ∧ o.data = .set es ep t ∧ Paired (EntI P w) es.toList ks ∧ List.Perm ks ns ∧ ns.Nodup ∧ t.fits es.size = true ∧ TabOk (!byT w) t
theorem pairedP_length {α β : Type} {F : α → β → Prop} : ∀ {l : List α} {r : List β}, Paired F l r → l.length = r.length
  | _, _, .nil => rfl
  | _, _, .cons _ t => by simp [pairedP_length t]
section
variable {P : Program} {w : World} {A : Around} {E : Value → Shared → Prop} {s : Shared} {a : Addr} {ns : List Int}
theorem elems_of : ∀ {l : List (Int × Value)} {ks : List Int}, Paired (EntI P w) l ks → ElemsOf (intKind P w) l
  | _, _, .nil => fun e he => nomatch he
  | _, _, .cons ⟨h1, t, h2⟩ r => fun e he => by
    rcases List.mem_cons.mp he with z | z
    · rw [z]
      exact ⟨⟨_, by rw [h2]; exact intKind_is _ _ _ _, h1⟩, by rw [h2]; rfl⟩
    · exact elems_of r e z
theorem is_of {k k' : Int} {v : Value} {t : Tok} (e : v = .int k' t) : (intKind P w).is k v = decide (k = k') := by
  rw [e]
  exact KeyKind.is_eq_decide (intKind_is _ _ _ _) k
/-- the scan meets k just where it is there -/
theorem scan_mem {k : Int} : ∀ {l : List (Int × Value)} {ks : List Int}, Paired (EntI P w) l ks → ((l.findIdx? fun e => (intKind P w).is k e.2).isSome = true ↔ k ∈ ks)
  | _, _, .nil => by simp
  | _, _, .cons (a := e) (b := k') ⟨h1, t, h2⟩ r => by
    have ih := scan_mem (k := k) r
    rw [List.findIdx?_cons, is_of h2]
    by_cases z : k = k'
    · subst z
      simp
    · rw [decide_eq_false z, if_neg Bool.false_ne_true, Option.isSome_map, ih, List.mem_cons]
      exact ⟨.inr, fun h => h.resolve_left z⟩
theorem paired_perm {l l' : List (Int × Value)} {ks : List Int} (p : List.Perm l' l) (h : Paired (EntI P w) l ks) : ∃ ks', List.Perm ks' ks ∧ Paired (EntI P w) l' ks' := by
  induction p generalizing ks with
  | nil => cases h; exact ⟨[], .nil, .nil⟩
  | cons x _ ih =>
    cases h with
    | cons hx r =>
      obtain ⟨ks', q, r'⟩ := ih r
      exact ⟨_, q.cons _, .cons hx r'⟩
  | swap x y l =>
    cases h with
    | cons hx r =>
      cases r with
      | cons hy r => exact ⟨_, .swap _ _ _, .cons hy (.cons hx r)⟩
  | trans _ _ ih1 ih2 =>
    obtain ⟨k2, q2, r2⟩ := ih2 h
    obtain ⟨k1, q1, r1⟩ := ih1 r2
    exact ⟨k1, q1.trans q2, r1⟩
theorem paired_end {x : Int × Value} {k : Int} (hx : EntI P w x k) : ∀ {l : List (Int × Value)} {ks : List Int}, Paired (EntI P w) l ks → Paired (EntI P w) (l ++ [x]) (ks ++ [k])
  | _, _, .nil => .cons hx .nil
  | _, _, .cons h t => .cons h (paired_end hx t)
/-- the set's new state is stored -/
theorem setG_store {o : Obj} {es es' : Array (Int × Value)} {ep : Nat} {t t' : SetTable} {ks : List Int} (q : s.heap.get? a = some o) (x : o.ExactSet) (d : o.data = .set es ep t) (r : Paired (EntI P w) es'.toList ks) (p : List.Perm ks ns) (nd : ns.Nodup) (f : t'.fits es'.size = true) (tb : TabOk (!byT w) t') :
    (s.heap.update a (Obj.putSet es' t')).get? a = some { o with data := .set es' (ep + 1) t' } ∧ SetG P w (s.heap.update a (Obj.putSet es' t')) a ns := by
  have g : (s.heap.update a (Obj.putSet es' t')).get? a = some { o with data := .set es' (ep + 1) t' } := by
    have z := Heap.get?_update_self (Obj.putSet es' t') q (by rw [putSet_of es' t' d]; rfl)
    rw [putSet_of es' t' d] at z
    exact z
  exact ⟨g, _, es', ep + 1, t', ks, g, x, rfl, r, p, nd, f, tb⟩
theorem setG_tail {g : Bool → Sem Unit} (hg : ∀ (b : Bool) (s1 : Shared) (Q' : Unit → Shared → Prop), Q' () s1 → wpAny (model P w) A (g b) Q' E s1) {o : Obj} {es es1 : Array (Int × Value)} {ep : Nat} {t t2 : SetTable} {ks : List Int} {wd : Bool} {R : Option Bool → Shared → Prop}
    (q : s.heap.get? a = some o) (x : o.ExactSet) (d : o.data = .set es ep t) (r : Paired (EntI P w) es1.toList ks) (p : List.Perm ks ns) (nd : ns.Nodup) (lb : es1.size < scanBound) (f : t2.fits es1.size = true) (tb : TabOk (!byT w) t2)
    (k : ∀ h', Heap.SameBut a s.heap h' → SetG P w h' a ns → R (some true) { s with heap := h' }) :
    wpAny (model P w) A (do storeSet a es1 t2; if (!wd && t2.tooFull) = true then (do g (relayAll t2 es1 (SetTable.grown es1.size)).2.2; storeSet a (relayAll t2 es1 (SetTable.grown es1.size)).1 (relayAll t2 es1 (SetTable.grown es1.size)).2.1; pure (some true)) else pure (some true)) R E s := by
  obtain ⟨q1, S1⟩ := setG_store (s := s) q x d r p nd f tb
  have b1 := Heap.SameBut.update s.heap a (Obj.putSet es1 t2)
  refine wpAny_bind (wpAny_storeSet_of q d ?_ (fits_of_scanBound lb))
  split
  · have rp := relayAll_perm t2 es1 (SetTable.grown es1.size)
    have rf := relayAll_fits t2 es1 (SetTable.grown es1.size)
    have rt := tab_relay tb es1 (SetTable.grown es1.size)
    generalize relayAll t2 es1 (SetTable.grown es1.size) = Y at rp rf rt ⊢
    obtain ⟨es2, t3, gv⟩ := Y
    dsimp only at rp rf rt ⊢
    obtain ⟨ks2, p2, r2⟩ := paired_perm rp r
    have zz : es2.size = es1.size := by rw [← Array.length_toList, rp.length_eq, Array.length_toList]
    refine wpAny_bind (hg _ _ _ (wpAny_bind (wpAny_storeSet_of q1 rfl ?_ (fits_of_scanBound (by rw [zz]; exact lb)))))
    obtain ⟨_, S2⟩ := setG_store (s := { s with heap := s.heap.update a (Obj.putSet es1 t2) }) q1 x rfl r2 (p2.trans p) nd rf rt
    exact wpAny_pure (k _ (b1.trans (Heap.SameBut.update _ a _)) S2)
  · exact wpAny_pure (k _ b1 S1)
def addI (k : Int) (ns : List Int) : List Int := if k ∈ ns then ns else ns ++ [k]
theorem setG_add {k : Int} {tk : Tok} {Q : Bool → Shared → Prop} (S : SetG P w s.heap a ns) (lb : ns.length + 1 < scanBound) (h : ∀ b h', Heap.SameBut a s.heap h' → SetG P w h' a (addI k ns) → Q b { s with heap := h' }) :
    wpAny (model P w) A (setAddHashed a (.int k tk) ((intKind P w).hash k)) Q E s := by
  obtain ⟨o, es, ep, t, ks, q, x, d, r, p, nd, f, tb⟩ := S
  have el := elems_of r
  have hz : es.size = ns.length := by rw [← Array.length_toList, pairedP_length r, p.length_eq]
  have kk : (intKind P w).is k (.int k tk) = true := intKind_is _ _ _ _
  unfold setAddHashed setAddHashedIn
  refine (wpAny_holding (wpAny_bind (wpAny_setState_of q d f ?_)))
  dsimp only
  rw [byScan_of (knd := intKind P w) (x := .int k tk) rfl (by omega) el]
  simp only [↓reduceIte]
  unfold setAddByScan
  refine wpAny_bind (wpAny_bind (wpAny_rule (wpAny_bind (wpAny_setScan_of kk q d f el ?_))))
  have sm := scan_mem (k := k) r
  cases sc : List.findIdx? (fun e => (intKind P w).is k e.2) es.toList with
  | some j =>
    dsimp only
    have mem : k ∈ ns := p.mem_iff.mp (sm.mp (by rw [sc]; rfl))
    refine wpAny_pure (wpAny_pure ?_)
    have e : addI k ns = ns := if_pos mem
    exact h false s.heap (Heap.SameBut.refl a s.heap) (by rw [e]; exact ⟨o, es, ep, t, ks, q, x, d, r, p, nd, f, tb⟩)
  | none =>
    dsimp only
    have nm : k ∉ ns := fun z => by
      have := sm.mpr (p.mem_iff.mpr z)
      rw [sc] at this; cases this
    have e : addI k ns = ns ++ [k] := if_neg nm
    have gw : ∀ (b : Bool) {s1 : Shared} {Q' : Unit → Shared → Prop}, Q' () s1 → wpAny (model P w) A (match b with | true => rule "set.scan.the-table-gave-way" | false => pure ()) Q' E s1 := fun b s1 Q' z => by cases b <;> first | exact wpAny_pure z | exact wpAny_rule z
    have lp := layNew_perm t es ((intKind P w).hash k) (.int k tk)
    have lf := layNew_fits t es ((intKind P w).hash k) (.int k tk)
    have lt := tab_layNew tb es ((intKind P w).hash k) (.int k tk)
    generalize layNew t es ((intKind P w).hash k) (.int k tk) = Y at lp lf lt ⊢
    obtain ⟨es1, t1, wd, gv⟩ := Y
    dsimp only at lp lf lt ⊢
    rw [Array.toList_push] at lp
    obtain ⟨ks1, p1, r1⟩ := paired_perm lp (paired_end (x := ((intKind P w).hash k, .int k tk)) (k := k) ⟨rfl, tk, rfl⟩ r)
    have pp : List.Perm ks1 (addI k ns) := by rw [e]; exact p1.trans (p.append_right _)
    have nn : (addI k ns).Nodup := by
      rw [e]
      refine List.nodup_append.mpr ⟨nd, by simp, fun y hy z hz => ?_⟩
      rw [List.mem_singleton.mp hz]
      intro ez
      exact nm (ez ▸ hy)
    have lb1 : es1.size < scanBound := by
      rw [← Array.length_toList, lp.length_eq, List.length_append, Array.length_toList, hz]
      exact lb
    have fin : ∀ h', Heap.SameBut a s.heap h' → SetG P w h' a (addI k ns) → Q true { s with heap := h' } := fun h' => h true h'
    refine wpAny_bind (gw _ ?_)
    have nog : ∀ (b : Bool) (s1 : Shared) (Q' : Unit → Shared → Prop), Q' () s1 → wpAny (model P w) A (match b with | true => rule "set.scan.the-table-gave-way" | false => pure ()) Q' E s1 := fun b s1 Q' z => gw b z
    split
    · refine wpAny_bind ?_
      rw [hashByValue_scannable 8 (x := .int k tk) rfl]
      refine wpAny_pure (setG_tail nog q x d r1 pp nn lb1 ?_ ?_ fun h' sb S' => ?_)
      · split
        · exact lf
        · exact SetTable.fits_plain_off lf
      · split
        · exact lt
        · exact ⟨lt.dum, lt.led, fun z => by cases z⟩
      · dsimp only
        exact wpAny_pure (fin h' sb S')
    · refine wpAny_bind (wpAny_pure ?_)
      simp only [↓reduceIte]
      refine setG_tail nog q x d r1 pp nn lb1 lf lt fun h' sb S' => ?_
      dsimp only
      exact wpAny_pure (fin h' sb S')
end
end L2

namespace L2
open PySem PySem.Spec PySem.W PyProof.Rows

theorem SetG.keep {P : Program} {w : World} {h h' : Heap} {a : Addr} {ns : List Int} (S : SetG P w h a ns) (k : ∀ o, h.get? a = some o → h'.get? a = some o) : SetG P w h' a ns :=
  let ⟨o, es, ep, t, ks, q, r⟩ := S; ⟨o, es, ep, t, ks, k o q, r⟩
/-- each once, in the order in which they were met -/
def onceL (ns : List Int) : List Int := ns.foldl (fun acc k => addI k acc) []
def onceN (val : Nat → Int) (i : Nat) : List Int := onceL ((List.range i).map val)
theorem onceN_succ (val : Nat → Int) (i : Nat) : onceN val (i + 1) = addI (val i) (onceN val i) := by
  unfold onceN onceL
  rw [List.range_succ, List.map_append, List.foldl_append]
  rfl
theorem addI_len (k : Int) (ns : List Int) : (addI k ns).length ≤ ns.length + 1 := by
  unfold addI
  split
  · exact Nat.le_succ _
  · rw [List.length_append, List.length_singleton]; exact Nat.le_refl _
theorem onceN_len (val : Nat → Int) : ∀ i, (onceN val i).length ≤ i
  | 0 => Nat.le_refl _
  | i + 1 => by
    rw [onceN_succ]
    have := addI_len (val i) (onceN val i)
    have := onceN_len val i
    omega
section
variable {P : Program} {w : World} {A : Around} {E : Value → Shared → Prop} {s : Shared}
theorem set_loop {I S : Addr} {fp wr : List Addr} {n : Nat} {Pv : Nat → Value → Prop} {St : Nat → Heap → Prop} {R : Result → Shared → Prop} (W : Walks P w A.in1 I fp wr n Pv St) (hSf : S ∉ fp) (val : Nat → Int) (hval : ∀ i v, Pv i v → ∃ t, v = .int (val i) t) (hb : n + 1 < scanBound) :
    ∀ (k i : Nat) (s : Shared), n - i = k → i ≤ n → St i s.heap → SetG P w s.heap S (onceN val i) →
      (∀ h' tk, (∀ b o, b ∉ S :: wr → s.heap.get? b = some o → h'.get? b = some o) → SetG P w h' S (onceN val n) → R (.ok (.ret .none)) { s with heap := h', toks := tk }) →
      codeAny (model P w) A (.builtin "set.update.loop" ⟨[.ref S, .ref I], []⟩) R s := by
  have hSw : S ∉ wr := fun h => hSf (W.sub _ h)
  intro k
  induction k with
  | zero =>
    intro i s hk hi st hS hR
    have ei : i = n := by omega
    subst ei
    refine (codeAny_builtin F.entry_set_update_loop (?_ : wpAny _ _ _ _ _ s))
    rw [(Around.under_plainId F.plain_set_update_loop _)]
    show wpAny _ A.in1 (pyNext (.ref I) >>= _) _ _ s
    refine wpAny_bind (W.done s _ _ st fun h' tk kk => (?_ : wpAny _ A.in1 (ret Value.none) _ _ _))
    exact wpAny_pure (hR h' tk (fun b o hb e => kk b o (fun z => hb (List.mem_cons_of_mem _ z)) e) (hS.keep fun o e => kk _ _ hSw e))
  | succ k ih =>
    intro i s hk hi st hS hR
    refine (codeAny_builtin F.entry_set_update_loop (?_ : wpAny _ _ _ _ _ s))
    rw [(Around.under_plainId F.plain_set_update_loop _)]
    show wpAny _ A.in1 (pyNext (.ref I) >>= _) _ _ s
    refine wpAny_bind (W.item i s _ _ (by omega) st fun v h' tk hP st' kk => ?_)
    obtain ⟨t, rfl⟩ := hval i v hP
    have hS1 := hS.keep (h' := h') fun o e => kk _ _ hSw e
    refine (wpAny_bind (wpAny_holding (?_ : wpAny _ A.in1 (setAdd S (.int (val i) t)) _ _ { s with heap := h', toks := tk })))
    unfold setAdd
    refine wpAny_holding (wpAny_bind ((intKind P w).pyHash (k := val i) (intKind_is _ _ _ _) ?_))
    have hl := onceN_len val i
    refine setG_add (s := { s with heap := h', toks := tk + 1 }) hS1 (by omega) fun b h2 sb hS2 => ?_
    have so : ∀ b, b ≠ S → h2.get? b = h'.get? b := fun b z => sb.2 b z
    refine wpAny_pure ⟨plainId_quiet F.plain_set_update_loop _, ih (i + 1) { s with heap := h2, toks := tk + 1 } (by omega) (by omega) (W.frame _ _ _ st' fun b hb o e => ?_) (by rw [onceN_succ]; exact hS2) fun h3 tk3 k3 hS3 => ?_⟩
    · rw [so b (fun z => hSf (z ▸ hb))]; exact e
    · refine hR h3 tk3 (fun b o hb e => k3 b o hb ?_) hS3
      rw [so b (fun z => hb (z ▸ List.mem_cons_self))]
      exact kk b o (fun z => hb (List.mem_cons_of_mem _ z)) e
abbrev setNil (w : World) : Obj := { cls := .type "set", dict := none, data := .set #[] 0 (.fresh 0 0 (!byT w)) }
theorem setG_nil {h : Heap} {a : Addr} (e : h.get? a = some (setNil w)) : SetG P w h a [] := ⟨_, #[], 0, _, [], e, ⟨rfl, rfl, rfl⟩, rfl, .nil, .nil, .nil, rfl, tab_fresh _⟩
theorem set_new (x : Value) {Q : Value → Shared → Prop} (h : Q (.ref s.heap.objs.size) { s with heap := s.heap.push (setNil w) }) : codeAny (model P w) A (.call (.builtin "set.__new__") ⟨[.type "set", x], []⟩) (wants Q E) s := by
  refine codeAny_of_tree (?_ : wpAny _ A.in1 (do checkBuiltinCall "set.__new__" ⟨[.type "set", x], []⟩; again (.builtin "set.__new__" ⟨[.type "set", x], []⟩)) _ _ s)
  refine wpAny_bind (wpAny_of_eq (F.newCall_set_1 x) (wpAny_pure ⟨plainId_quiet F.plain_set_new _, (codeAny_builtin F.entry_set_new (?_ : wpAny _ _ _ _ _ s))⟩))
  rw [(Around.under_plainId F.plain_set_new _)]
  unfold Builtin.«set.__new__» Builtin.Frozenset.newClass
  have hsub := sub_set_self
  obtain ⟨hp, g, d, tk, os⟩ := s
  dsimp only
  wp_walk
  refine wpAny_askSetting (wpAny_pure ?_)
  dsimp only
  simp only [newObj]
  exact wpAny_bind (wpAny_alloc (wpAny_pure (wpAny_pure h)))
set_option maxHeartbeats 6000000 in
theorem set_call {l : Addr} {items : Array Value} {ns : List Int} {Q : Value → Shared → Prop} (hh : A.handled = none) (hl : s.heap.IsList l items) (hi : IntsAre items.toList ns) (hb : items.size + 1 < scanBound)
    (h : ∀ (h' : Heap) (tk : Nat), SetG P w h' s.heap.objs.size (onceN (fun i => ns.getD i 0) items.size) → (∀ b o, s.heap.get? b = some o → h'.get? b = some o) → Q (.ref s.heap.objs.size) { s with heap := h', toks := tk }) :
    wpAny (model P w) A (call (.type "set") [.ref l]) Q E s := by
  obtain ⟨c, tl, hmro⟩ := F.called_set.mro
  have hmade := F.called_set.made
  have hsub := F.called_set.sub
  refine wpAny_call (codeAny_of_tree (?_ : wpAny _ _ (callAny (.type "set") _) _ _ _))
  refine wpAny_pure ⟨Code.quiet_builtin _ (by decide +kernel), (codeAny_builtin F.entry_type_call (?_ : wpAny _ _ _ _ _ s))⟩
  rw [Around.under_plain (weight_type_call_type "set" [.ref l] []) rfl]
  have h1 := F.called_set.notType
  have h2 := F.called_set.canCreate
  have hct := F.typeCall_set_1 (.ref l)
  repeat (any_goals (first | assumption | wp_step))
  refine codeAny_mono (set_new (.ref l) (E := E) (Q := fun obj s₁ => obj = .ref s.heap.objs.size ∧ s₁ = { s with heap := s.heap.push (setNil w) }) ⟨rfl, rfl⟩) fun r s₁ hr => ?_
  cases r with
  | error e => exact hr
  | ok fl =>
    cases fl with
    | ret obj =>
      obtain ⟨rfl, rfl⟩ := hr
      have hS : (s.heap.push (setNil w)).get? s.heap.objs.size = some (setNil w) := Heap.get?_push_size _ rfl
      have hT : Shared.TypeIs { s with heap := s.heap.push (setNil w) } (.ref s.heap.objs.size) "set" := ⟨_, hS, rfl⟩
      have hli := F.called_set.init.lookup
      have hbi := F.called_set.init.bind (.ref s.heap.objs.size)
      repeat (any_goals (first | assumption | wp_step))
      refine codeAny_mono (codeAny_call_builtin (R := wants (fun r s₂ => r = .none ∧ ∃ h' tk, s₂ = { s with heap := h', toks := tk } ∧ SetG P w h' s.heap.objs.size (onceN (fun i => ns.getD i 0) items.size) ∧ (∀ b o, s.heap.get? b = some o → h'.get? b = some o)) E) F.called_set.init.plain F.entry_set_init (check_set_init_1 hT ?_)) fun r₂ s₂ hr₂ => ?_
      · obtain ⟨ol, hol, hcl, nl, hdl⟩ := hl
        obtain ⟨ocls, odict, odata, oslots⟩ := ol
        simp only at hcl hdl
        subst hcl; subst hdl
        have hol' : (s.heap.push (setNil w)).get? l = some { cls := .type "list", dict := odict, data := .seq items nl, slots := oslots } := Heap.get?_push_of_some _ hol
        have hsls := F.sub_list_set
        have hslf := F.sub_list_frozenset
        have hne : (Value.type "list" == Value.type "dict") = false := by decide
        have hl1 : (s.heap.push (setNil w)).IsList l items := ⟨_, hol', rfl, nl, rfl⟩
        unfold Builtin.«set.__init__» noKeywords Builtin.Frozenset.updateFrom
        generalize hPI : pyIter = PI
        wp_walk
        subst hPI
        refine (wpAny_pyIter_list hl1 (wpAny_bind (wpAny_runValue ?_)))
        have hlS : l < s.heap.objs.size := Heap.lt_size hol
        have hh3 : A.in1.in1.in1.handled = none := by simp [hh]
        have z1 : (s.heap.push (setNil w)).objs.size = s.heap.objs.size + 1 := Heap.size_push _ _
        have hneI : l ≠ (s.heap.push (setNil w)).objs.size := by rw [z1]; exact Nat.ne_of_lt (Nat.lt_succ_of_lt hlS)
        have hSf : s.heap.objs.size ∉ [(s.heap.push (setNil w)).objs.size, l] := by
          rw [z1]; simp only [List.mem_cons, List.mem_singleton, List.not_mem_nil, or_false, not_or]
          exact ⟨Nat.ne_of_lt (Nat.lt_succ_self _), Nat.ne_of_gt hlS⟩
        have hval : ∀ (i : Nat) (v : Value), items[i]? = some v → ∃ t, v = .int ((fun i => ns.getD i 0) i) t := fun i v hv => IntsAre.int_at hi i v (by rw [Array.getElem?_toList]; exact hv)
        refine set_loop (Walks.list hh3 _ l hneI items) hSf (fun i => ns.getD i 0) hval hb (items.size - 0) 0 _ (by omega) (Nat.zero_le _) ⟨⟨_, Heap.get?_push_size _ rfl, rfl, rfl⟩, (hl1.push _)⟩ (setG_nil (Heap.get?_push_of_some _ hS)) fun h' tk kk S' => ?_
        refine (wpAny_pure (?_ : wpAny _ _ (ret Value.none) _ _ _))
        refine wpAny_pure ⟨rfl, h', tk, rfl, S', fun b o e => kk b o ?_ (Heap.get?_push_of_some _ (Heap.get?_push_of_some _ e))⟩
        have hb := Heap.lt_size e
        rw [z1]
        simp only [List.mem_cons, List.mem_singleton, List.not_mem_nil, or_false, not_or]
        exact ⟨Nat.ne_of_lt hb, Nat.ne_of_lt (Nat.lt_succ_of_lt hb)⟩
      · cases r₂ with
        | error e => exact hr₂
        | ok fl₂ =>
          cases fl₂ with
          | ret r =>
            obtain ⟨rfl, h', tk, rfl, hS', hk'⟩ := hr₂
            repeat (any_goals (first | assumption | wp_step))
            exact h _ _ hS' hk'
          | _ => exact hr₂.elim
    | _ => exact hr.elim
end
end L2

namespace L2
open PySem PySem.Spec PySem.W PyProof.Rows

namespace SF
theorem slot_next : Slot "set_iterator" "__next__" "set_iterator.__next__" :=
  .of (owner := "set_iterator") (n := "__next__") (by rw [typeLookup_type, builtinLookup_eq_fast]; kernel_rfl) (by decide +kernel) (by decide +kernel) (by decide +kernel) (by first | exact .inl (by decide +kernel) | exact .inr (by decide +kernel)) (by rw [isSubtype_type]; kernel_rfl)
theorem entry_next : entryFor table "set_iterator.__next__" = some Builtin.«set_iterator.__next__» := entryFor_of_tree (by kernel_rfl)
theorem args_next (a : Value) : argsOk "set_iterator.__next__" ⟨[a], []⟩ := by unfold argsOk; kernel_rfl
theorem entry_iter : entryFor table "set.__iter__" = some Builtin.«frozenset.__iter__» := entryFor_alias (id' := "frozenset.__iter__") (by kernel_rfl) rfl (by decide +kernel) (by kernel_rfl)
theorem len_set : typeLookup (.type "set") "__len__" = pure (some (.builtin "set.__len__")) := by rw [typeLookup_type, builtinLookup_eq_fast]; kernel_rfl
end SF

/-! ### draws, picks: the members, each once -/
theorem erase_perm {α : Type} {l : List α} {i : Nat} (h : i < l.length) : List.Perm (l[i] :: l.eraseIdx i) l := by
  have e : l.take i ++ l[i] :: l.drop (i + 1) = l := by rw [List.getElem_cons_drop, List.take_append_drop]
  rw [List.eraseIdx_eq_take_drop_succ]
  have p : List.Perm (l[i] :: (l.take i ++ l.drop (i + 1))) (l.take i ++ l[i] :: l.drop (i + 1)) := List.perm_middle.symm
  rw [e] at p
  exact p
section
variable {M : Model} {A : Around} {E : Value → Shared → Prop} {s : Shared}
theorem choose_any {src : Source} {n : Nat} {Q : Nat → Shared → Prop} (hn : n ≠ 0) (h : ∀ i d, i < n → Q i { s with drawn := d }) : wpAny M A (choose src n) Q E s :=
  fun Γ p _ => ⟨hn, h _ _ (Nat.mod_lt _ (Nat.pos_of_ne_zero hn))⟩
theorem draw_perm {α : Type} : ∀ (n : Nat) (xs : List α) (s : Shared) {Q : List α → Shared → Prop}, xs.length = n → (∀ ys d, List.Perm ys xs → Q ys { s with drawn := d }) → wpAny M A (drawOrder n xs) Q E s
  | 0, xs, s, Q, hl, h => by
    have e : xs = [] := List.length_eq_zero_iff.mp hl
    subst e
    exact wpAny_pure (h [] s.drawn .nil)
  | n + 1, [], s, Q, hl, h => by cases hl
  | n + 1, x :: xs, s, Q, hl, h => by
    unfold drawOrder
    refine wpAny_bind (choose_any (by simp) fun i d hi => ?_)
    have e : (x :: xs)[i]? = some ((x :: xs)[i]) := List.getElem?_eq_getElem hi
    rw [e]
    dsimp only
    refine wpAny_bind (draw_perm n _ _ (by rw [List.length_eraseIdx, if_pos hi, hl]; rfl) fun ys d' hp => wpAny_pure (h _ d' ?_))
    exact (hp.cons _).trans (erase_perm hi)
end
theorem pick_go {α : Type} (next : Nat → Nat) : ∀ (n k : Nat) (left : List α) (out : Array α), left.length = n → ∃ ys, List.Perm ys left ∧ (pickOrder.go next n k left out).toList = out.toList ++ ys
  | 0, k, left, out, hl => by
    have e : left = [] := List.length_eq_zero_iff.mp hl
    subst e
    exact ⟨[], .nil, by unfold pickOrder.go; simp⟩
  | n + 1, k, left, out, hl => by
    have hi : next k % left.length < left.length := Nat.mod_lt _ (by omega)
    unfold pickOrder.go
    rw [List.getElem?_eq_getElem hi]
    dsimp only
    obtain ⟨ys, hp, e⟩ := pick_go next n (k + 1) (left.eraseIdx (next k % left.length)) (out.push left[next k % left.length]) (by rw [List.length_eraseIdx, if_pos hi, hl]; rfl)
    exact ⟨left[next k % left.length] :: ys, (hp.cons _).trans (erase_perm hi), by rw [e]; simp⟩
theorem pick_perm {α : Type} (next : Nat → Nat) (xs : Array α) : List.Perm (pickOrder next xs).toList xs.toList := by
  obtain ⟨ys, hp, e⟩ := pick_go next xs.size 0 xs.toList #[] (by simp)
  unfold pickOrder
  rw [e]
  simpa using hp

/-! ### a set is walked -/
def slotAt (place : Array Nat) (i : Nat) : Nat := if i = 0 then 0 else place.getD (i - 1) 0 + 1
def ModeG (P : Program) (w : World) (h : Heap) (a : Addr) (es : Array (Int × Value)) (ep : Nat) (t : SetTable) (ks ord : List Int) (first : Value) (i : Nat) : Prop :=
  (byT w = true ∧ (∃ f u, first = .int f u) ∧ Paired (EntI P w) (pickOrder (w.params.setOrder a ep) es).toList ord) ∨
  (byT w = false ∧ (!t.plain && decide (es.size > 1)) = false ∧ Asc t.place ∧ ord = ks ∧ first = rawInt (slotAt t.place i)) ∨
  (byT w = false ∧ ∃ (tp : Addr) (pl : List Nat), first = .ref tp ∧ IsTup h tp (pl.map fun j => rawInt (j : Nat)).toArray ∧ List.Perm pl (List.range es.size) ∧ ord = pl.map fun j => ks.getD j 0)
def ItG (P : Program) (w : World) (h : Heap) (it a : Addr) (ord : List Int) (i : Nat) : Prop :=
  ∃ o es ep t ks first, h.get? a = some o ∧ o.cls = .type "set" ∧ o.data = .set es ep t ∧ t.fits es.size = true ∧ Paired (EntI P w) es.toList ks ∧ t.led = (!byT w) ∧ ord.length = es.size ∧ a ≠ it ∧
    h.get? it = some { cls := .type "set_iterator", data := .fields #[first, rawInt i, .ref a, rawInt es.size, rawInt ep] } ∧ ModeG P w h a es ep t ks ord first i
section
variable {P : Program} {w : World} {A : Around} {E : Value → Shared → Prop} {s : Shared} {it a : Addr} {ord : List Int} {i : Nat}
theorem ItG.keep {h h' : Heap} (g : ItG P w h it a ord i) (k : ∀ b o, o.cls ≠ .type "list" → h.get? b = some o → h'.get? b = some o) : ItG P w h' it a ord i := by
  obtain ⟨o, es, ep, t, ks, first, q, c, d, f, r, l, n, ne, e, m⟩ := g
  refine ⟨o, es, ep, t, ks, first, k _ _ (by rw [c]; simp) q, c, d, f, r, l, n, ne, k _ _ (by simp) e, ?_⟩
  rcases m with m | m | ⟨m1, tp, pl, m2, ⟨ot, e1, e2, e3⟩, m4⟩
  · exact .inl m
  · exact .inr (.inl m)
  · exact .inr (.inr ⟨m1, tp, pl, m2, ⟨ot, k _ _ (by rw [e2]; simp) e1, e2, e3⟩, m4⟩)
theorem paired_at {es : List (Int × Value)} {ks : List Int} (r : Paired (EntI P w) es ks) {j : Nat} (hj : j < ks.length) : ∃ hh t, es[j]? = some (hh, .int ks[j] t) := by
  induction r generalizing j with
  | nil => simp at hj
  | cons h _ ih =>
    cases j with
    | zero =>
      obtain ⟨h1, t, h2⟩ := h
      rename_i e k _ _ _
      obtain ⟨e1, e2⟩ := e
      simp only at h2
      subst h2
      exact ⟨e1, t, rfl⟩
    | succ j =>
      obtain ⟨hh, t, e⟩ := ih (j := j) (by simpa using hj)
      exact ⟨hh, t, by simpa using e⟩
theorem byText_wp {Q : Bool → Shared → Prop} (h : Q (byT w) s) : wpAny (model P w) A setsByText Q E s := by
  unfold setsByText
  exact wpAny_bind (wpAny_askSetting (wpAny_pure h))
theorem next_text {o : Obj} {es : Array (Int × Value)} {ep slot given : Nat} {t : SetTable} {Q : Option (Value × Nat) → Shared → Prop} (q : s.heap.get? a = some o) (d : o.data = .set es ep t) (f : t.fits es.size = true) (hb : byT w = true)
    (h : Q (((pickOrder (w.params.setOrder a ep) es)[given]?).map fun e => (e.2, slot)) s) : wpAny (model P w) A (setNext a slot given ep) Q E s := by
  unfold setNext
  refine wpAny_bind (wpAny_setState_of q d f (wpAny_bind (byText_wp ?_)))
  dsimp only
  rw [hb, if_pos rfl, if_neg (by simp)]
  unfold setWalk
  refine wpAny_bind (wpAny_bind (wpAny_setState_of q d f (wpAny_bind (byText_wp ?_))))
  rw [hb, if_pos rfl]
  exact wpAny_bind (wpAny_askSetting (wpAny_pure (wpAny_pure h)))
theorem next_plain {o : Obj} {es : Array (Int × Value)} {ep slot given : Nat} {t : SetTable} {Q : Option (Value × Nat) → Shared → Prop} (q : s.heap.get? a = some o) (d : o.data = .set es ep t) (f : t.fits es.size = true) (hb : byT w = false) (hl : t.led = true) (hd : (!t.plain && decide (es.size > 1)) = false)
    (h : Q (match es[SetTable.below t.place slot]?, t.place[SetTable.below t.place slot]? with | some (_, x), some j => some (x, j + 1) | _, _ => none) s) : wpAny (model P w) A (setNext a slot given ep) Q E s := by
  unfold setNext
  refine wpAny_bind (wpAny_setState_of q d f (wpAny_bind (byText_wp ?_)))
  dsimp only
  rw [hb, if_neg Bool.false_ne_true]
  show wpAny _ _ (if (!t.plain && decide (es.size > 1)) = true then _ else _) _ _ _
  rw [hd, if_neg Bool.false_ne_true]
  refine wpAny_bind (?_ : wpAny _ _ (if (!t.led && !es.isEmpty) = true then _ else _) _ _ _)
  rw [hl]
  exact wpAny_pure (wpAny_pure h)
theorem fit_place {t : SetTable} {n : Nat} (f : t.fits n = true) : t.place.size = n := by
  simp only [SetTable.fits, Bool.and_eq_true, beq_iff_eq] at f
  exact f.1
/-- the iterator's record is written -/
theorem it_put {h : Heap} {vs : Array Value} {j : Nat} {v : Value} (e : h.get? it = some { cls := .type "set_iterator", data := .fields vs }) : (h.update it (Obj.mapFields (·.setIfInBounds j v))).get? it = some { cls := .type "set_iterator", data := .fields (vs.setIfInBounds j v) } :=
  Heap.get?_update_self _ e rfl
theorem itG_item {Q : Option Value → Shared → Prop} (g : ItG P w s.heap it a ord i) (hi : i < ord.length) (k : ∀ h' t, ItG P w h' it a ord (i + 1) → Heap.SameBut it s.heap h' → Q (some (.int ord[i] t)) { s with heap := h' }) : wpAny (model P w) A (pyNext (.ref it)) Q E s := by
  obtain ⟨o, es, ep, t, ks, first, q, c, d, f, r, l, n, ne, e, m⟩ := g
  have tis : s.TypeIs (.ref it) "set_iterator" := ⟨_, e, rfl⟩
  have kl := pairedP_length r
  rw [Array.length_toList] at kl
  unfold pyNext
  refine wpAny_bind (wpAny_attempt (wpAny_callSpecial?_slot (name := Str.ofString "__next__") tis SF.slot_next (wpAny_call_entry SF.slot_next tis SF.entry_next (?_ : wpAny _ _ (fieldsOf (.ref it) >>= _) _ _ s) (SF.args_next _))))
  unfold fieldsOf
  refine wpAny_bind (wpAny_bind (wpAny_load e (wpAny_pure ?_)))
  show wpAny _ _ (setEntries a >>= _) _ _ s
  refine wpAny_bind (wpAny_setEntries_of q d f ?_)
  simp only [bne_self_eq_false, Bool.false_eq_true, if_false, Int.toNat_natCast]
  have adv2 : ∀ (nx : Nat) (u : Tok), ModeG P w ((s.heap.update it (Obj.mapFields (·.setIfInBounds 0 (rawInt (nx : Nat))))).update it (Obj.mapFields (·.setIfInBounds 1 (rawInt ((i : Int) + 1))))) a es ep t ks ord (rawInt (nx : Nat)) (i + 1) →
      wpAny (model P w) A.in1 (do setField (.ref it) 0 (rawInt (nx : Nat)); setField (.ref it) 1 (rawInt ((i : Int) + 1)); ret (.int ord[i] u)) (fun fin s' => ∃ v, fin = Fin.done (Flow.ret v) ∧ wpAny (model P w) A (pure (some v)) Q E s') (fun e s' => wpAny (model P w) A (do
          let __do_lift ← isInstance e (Value.type "StopIteration")
          if __do_lift = true then pure none else throw e) Q E s') s := fun nx u md => by
    have e1 := it_put (j := 0) (v := rawInt (nx : Nat)) e
    have e2 := it_put (j := 1) (v := rawInt ((i : Int) + 1)) e1
    refine wpAny_bind (wpAny_setField e rfl (by simp) (wpAny_bind (wpAny_setField e1 rfl (by simp) (wpAny_pure ⟨_, rfl, wpAny_pure (k _ u ?_ ((Heap.SameBut.update _ it _).trans (Heap.SameBut.update _ it _)))⟩))))
    have sb := (Heap.SameBut.update s.heap it (Obj.mapFields (·.setIfInBounds 0 (rawInt (nx : Nat))))).trans (Heap.SameBut.update _ it (Obj.mapFields (·.setIfInBounds 1 (rawInt ((i : Int) + 1)))))
    exact ⟨o, es, ep, t, ks, _, (sb.2 a ne).trans q, c, d, f, r, l, n, ne, e2, md⟩
  rcases m with ⟨m1, ⟨f0, u0, rfl⟩, m3⟩ | ⟨m1, m2, m3, rfl, rfl⟩ | ⟨m1, tp, pl, rfl, m3, m4, m5⟩
  · obtain ⟨hh, u, eu⟩ := paired_at m3 hi
    refine wpAny_bind (next_text q d f m1 ?_)
    have eg : (pickOrder (w.params.setOrder a ep) es)[i]? = some (hh, .int ord[i] u) := by rw [← Array.getElem?_toList]; exact eu
    rw [eg]
    exact adv2 _ u (.inl ⟨m1, ⟨_, _, rfl⟩, m3⟩)
  · have ps := fit_place f
    have hs : i < t.place.size := by omega
    obtain ⟨hh, u, eu⟩ := paired_at r hi
    have eb : SetTable.below t.place ((slotAt t.place i : Nat) : Int).toNat = i := by
      rw [Int.toNat_natCast]
      unfold slotAt
      by_cases z : i = 0
      · rw [if_pos z, z]; exact below_zero m3
      · rw [if_neg z]
        have := below_next m3 (i := i - 1) (by omega)
        rw [show t.place.getD (i - 1) 0 = t.place[i - 1]'(by omega) by simp [Array.getD, show i - 1 < t.place.size by omega], this]
        omega
    refine wpAny_bind (next_plain q d f m1 (by rw [l, m1]; rfl) m2 ?_)
    have eg : es[SetTable.below t.place ((slotAt t.place i : Nat) : Int).toNat]? = some (hh, .int ord[i] u) := by rw [eb, ← Array.getElem?_toList]; exact eu
    have ep' : t.place[SetTable.below t.place ((slotAt t.place i : Nat) : Int).toNat]? = some (t.place[i]) := by rw [eb]; exact Array.getElem?_eq_getElem hs
    rw [eg, ep']
    refine adv2 _ u (.inr (.inl ⟨m1, m2, m3, rfl, ?_⟩))
    unfold slotAt
    rw [if_neg (Nat.succ_ne_zero _), Nat.add_sub_cancel, show t.place.getD i 0 = t.place[i] by simp [Array.getD, hs]]
  · have pll : pl.length = es.size := by have := m4.length_eq; simpa using this
    have hp : i < pl.length := by omega
    have hj : pl[i] < ks.length := by
      have := m4.mem_iff.mp (List.getElem_mem hp)
      rw [List.mem_range] at this
      omega
    obtain ⟨ot, t1, t2, n3, t3⟩ := id m3
    refine wpAny_bind (wpAny_seqItems t1 t3 ?_)
    have eg : ((pl.map fun j => rawInt (j : Nat)).toArray)[i]? = some (rawInt (pl[i] : Nat)) := by simp [hp]
    dsimp only
    rw [eg]
    obtain ⟨hh, u, eu⟩ := paired_at r hj
    show wpAny _ _ (setNextDrawn a ((pl[i] : Nat) : Int).toNat ep >>= _) _ _ s
    unfold setNextDrawn
    refine wpAny_bind (wpAny_bind (wpAny_setState_of q d f ?_))
    dsimp only
    rw [if_neg (by simp), Int.toNat_natCast, ← Array.getElem?_toList, eu]
    have eo : ord[i] = ks[pl[i]] := by
      subst m5
      simp [hj]
    refine wpAny_pure (wpAny_bind (wpAny_setField e rfl (by simp) (wpAny_pure ⟨_, rfl, wpAny_pure ?_⟩)))
    have e2 := it_put (j := 1) (v := rawInt ((i : Int) + 1)) e
    have sb := Heap.SameBut.update s.heap it (Obj.mapFields (·.setIfInBounds 1 (rawInt ((i : Int) + 1))))
    have ntp : tp ≠ it := fun z => by
      rw [z, e] at t1; cases t1; simp at t2
    rw [← eo]
    exact k _ u ⟨o, es, ep, t, ks, _, (sb.2 a ne).trans q, c, d, f, r, l, n, ne, e2, .inr (.inr ⟨m1, tp, pl, rfl, ⟨ot, (sb.2 tp ntp).trans t1, t2, n3, t3⟩, m4, m5⟩)⟩ sb
end
end L2

namespace L2
open PySem PySem.Spec PySem.W PyProof.Rows
section
variable {P : Program} {w : World} {A : Around} {E : Value → Shared → Prop} {s : Shared} {it a : Addr} {ord : List Int} {i : Nat}
/-- StopIteration is raised, and taken by pyNext -/
theorem stop_wp {Q : Option Value → Shared → Prop} {R : PySem.Fin → Shared → Prop} (hh : A.handled = none) (k : ∀ h', (∀ b o, s.heap.get? b = some o → h'.get? b = some o) → Q none { s with heap := h' }) :
    wpAny (model P w) A.in1 (do let e ← newExc (Value.type "StopIteration") []; raiseNew e) R (fun e s' => wpAny (model P w) A (do
          let __do_lift ← isInstance e (Value.type "StopIteration")
          if __do_lift = true then pure none else throw e) Q E s') s := by
  refine wpAny_bind ?_
  simp only [newExc, newTuple]
  refine wpAny_bind (wpAny_newObj_type (wpAny_bind (m := firstArgMember _ _) (wpAny_of_eq (a := Value.none) (by first | rfl | (simp only [firstArgMember]; rfl)) (wpAny_newObj_type ?_ (by size_fits)))) (by size_fits))
  simp only [raiseNew]
  refine wpAny_bind (wpAny_handled ?_)
  rw [show A.in1.handled = none from hh]
  refine wpAny_bind (wpAny_pure (wpAny_throw ?_))
  refine (wpAny_bind (wpAny_isInstance (T := "StopIteration") (b := true) ⟨_, Heap.get?_push_size _ rfl, rfl⟩ isSubtype_stop ?_))
  exact wpAny_pure (k _ fun b o e => Heap.get?_push_of_some _ (Heap.get?_push_of_some _ e))
theorem itG_done {Q : Option Value → Shared → Prop} (hh : A.handled = none) (g : ItG P w s.heap it a ord ord.length) (k : ∀ h', (∀ b o, b ≠ it → s.heap.get? b = some o → h'.get? b = some o) → Q none { s with heap := h' }) : wpAny (model P w) A (pyNext (.ref it)) Q E s := by
  obtain ⟨o, es, ep, t, ks, first, q, c, d, f, r, l, n, ne, e, m⟩ := g
  have tis : s.TypeIs (.ref it) "set_iterator" := ⟨_, e, rfl⟩
  have kl := pairedP_length r
  rw [Array.length_toList] at kl
  unfold pyNext
  refine wpAny_bind (wpAny_attempt (wpAny_callSpecial?_slot (name := Str.ofString "__next__") tis SF.slot_next (wpAny_call_entry SF.slot_next tis SF.entry_next (?_ : wpAny _ _ (fieldsOf (.ref it) >>= _) _ _ s) (SF.args_next _))))
  unfold fieldsOf
  refine wpAny_bind (wpAny_bind (wpAny_load e (wpAny_pure ?_)))
  show wpAny _ _ (setEntries a >>= _) _ _ s
  refine wpAny_bind (wpAny_setEntries_of q d f ?_)
  simp only [bne_self_eq_false, Bool.false_eq_true, if_false, Int.toNat_natCast]
  have fin1 : wpAny (model P w) A.in1 (do setField (.ref it) 2 Value.none; let e ← newExc (Value.type "StopIteration") []; raiseNew e) (fun fin s' => ∃ v, fin = Fin.done (Flow.ret v) ∧ wpAny (model P w) A (pure (some v)) Q E s') (fun e s' => wpAny (model P w) A (do
          let __do_lift ← isInstance e (Value.type "StopIteration")
          if __do_lift = true then pure none else throw e) Q E s') s := by
    have sb := Heap.SameBut.update s.heap it (Obj.mapFields (·.setIfInBounds 2 Value.none))
    exact wpAny_bind (wpAny_setField e rfl (by simp) (stop_wp hh fun h' kk => k h' fun b o z y => kk b o ((sb.2 b z).trans y)))
  rcases m with ⟨m1, ⟨f0, u0, rfl⟩, m3⟩ | ⟨m1, m2, m3, rfl, rfl⟩ | ⟨m1, tp, pl, rfl, m3, m4, m5⟩
  · refine wpAny_bind (next_text q d f m1 ?_)
    have pl := pairedP_length m3
    rw [Array.length_toList] at pl
    rw [Array.getElem?_eq_none (by omega)]
    exact fin1
  · have ps := fit_place f
    refine wpAny_bind (next_plain q d f m1 (by rw [l, m1]; rfl) m2 ?_)
    have eb : SetTable.below t.place (slotAt t.place ord.length) = ord.length := by
      unfold slotAt
      by_cases z : ord.length = 0
      · rw [if_pos z, z]; exact below_zero m3
      · rw [if_neg z]
        have := below_next m3 (i := ord.length - 1) (by omega)
        rw [show t.place.getD (ord.length - 1) 0 = t.place[ord.length - 1]'(by omega) by simp [Array.getD, show ord.length - 1 < t.place.size by omega], this]
        omega
    have eg : es[SetTable.below t.place (slotAt t.place ord.length)]? = none := by rw [eb]; exact Array.getElem?_eq_none (by omega)
    simp only [Int.toNat_natCast]
    rw [eg]
    exact fin1
  · obtain ⟨ot, t1, t2, n3, t3⟩ := id m3
    have pll : pl.length = ord.length := by rw [m5, List.length_map]
    refine wpAny_bind (wpAny_seqItems t1 t3 ?_)
    have eg : ((pl.map fun j => rawInt (j : Nat)).toArray)[ord.length]? = none := Array.getElem?_eq_none (by simp [pll])
    dsimp only
    rw [eg]
    have e1 := it_put (j := 0) (v := rawInt 0) e
    have sb := (Heap.SameBut.update s.heap it (Obj.mapFields (·.setIfInBounds 0 (rawInt 0)))).trans (Heap.SameBut.update _ it (Obj.mapFields (·.setIfInBounds 2 Value.none)))
    exact wpAny_bind (wpAny_setField e rfl (by simp) (wpAny_bind (wpAny_setField e1 rfl (by simp) (stop_wp hh fun h' kk => k h' fun b o z y => kk b o ((sb.2 b z).trans y)))))
/-- list.extend over the walk -/
theorem ext_loop {S : Addr} {res : Value} {R : Result → Shared → Prop} (hh : A.handled = none) (hSi : S ≠ it) (hz : ord.length ≤ sizeLine) : ∀ (k i : Nat) (s : Shared) (acc : List Value) (c : Nat), ord.length - i = k → i ≤ ord.length → ItG P w s.heap it a ord i → s.heap.get? S = some { cls := .type "list", data := .seq acc.toArray c } → IntsAre acc (ord.take i) →
    (∀ h' acc' c', (∀ b o, b ≠ it → b ≠ S → s.heap.get? b = some o → h'.get? b = some o) → h'.get? S = some { cls := .type "list", data := .seq acc'.toArray c' } → IntsAre acc' ord → R (.ok (.ret res)) { s with heap := h' }) →
    codeAny (model P w) A (.builtin "list.extend.loop" ⟨[.ref S, .ref it, res], []⟩) R s := by
  intro k
  induction k with
  | zero =>
    intro i s acc c hk hi g eS ha hR
    have ei : i = ord.length := by omega
    subst ei
    refine (codeAny_builtin F.entry_extend_loop (?_ : wpAny _ _ _ _ _ s))
    rw [(Around.under_plainId F.plain_extend_loop _)]
    refine (wpAny_bind (itG_done (A := A.in1) hh g fun h' kk => ?_) : wpAny _ A.in1 (pyNext (.ref it) >>= _) _ _ s)
    rw [List.take_length] at ha
    exact wpAny_pure (hR h' acc c (fun b o z _ y => kk b o z y) (kk S _ hSi eS) ha)
  | succ k ih =>
    intro i s acc c hk hi g eS ha hR
    have hlt : i < ord.length := by omega
    refine (codeAny_builtin F.entry_extend_loop (?_ : wpAny _ _ _ _ _ s))
    rw [(Around.under_plainId F.plain_extend_loop _)]
    refine (wpAny_bind (itG_item (A := A.in1) g hlt fun h' t g' sb => ?_) : wpAny _ A.in1 (pyNext (.ref it) >>= _) _ _ s)
    have eS1 : h'.get? S = some { cls := .type "list", data := .seq acc.toArray c } := (sb.2 S hSi).trans eS
    have al : acc.length = i := by rw [ha.length, List.length_take]; omega
    have sb2 := Heap.SameBut.update h' S (Obj.mapSeq (·.push (Value.int ord[i] t)))
    show wpAny _ A.in1 (updateSeq S (·.push (Value.int ord[i] t)) >>= _) _ _ _
    refine wpAny_bind ?_
    refine wpAny_updateSeq eS1 rfl (wpAny_pure ⟨plainId_quiet F.plain_extend_loop _, ?_⟩) (by rw [List.size_toArray]; omega) (by show (acc.toArray.push (Value.int ord[i] t)).size ≤ sizeLine + 1; rw [Array.size_push, List.size_toArray]; omega)
    have eS2 : (h'.update S (Obj.mapSeq (·.push (Value.int ord[i] t)))).get? S = some { cls := .type "list", data := .seq (acc ++ [Value.int ord[i] t]).toArray (c + 1) } := by
      have := Heap.get?_update_self (Obj.mapSeq (·.push (Value.int ord[i] t))) eS1 rfl
      rw [this]
      simp [Obj.mapSeq]
    refine ih (i + 1) _ (acc ++ [Value.int ord[i] t]) (c + 1) (by omega) (by omega) (g'.keep fun b o z y => (sb2.2 b fun w => ?_).trans y) eS2 ?_ fun h3 acc' c' kk e3 a3 => ?_
    · rw [w, eS1] at y; cases y; exact z rfl
    · rw [List.take_add_one, List.getElem?_eq_getElem hlt]
      exact ksk_snoc ha
    · refine hR h3 acc' c' (fun b o z1 z2 y => kk b o z1 z2 ((sb2.2 b z2).trans ((sb.2 b z1).trans y))) e3 a3
end
end L2

namespace L2
open PySem PySem.Spec PySem.W PyProof.Rows
theorem asc_short {xs : Array Nat} (h : xs.size ≤ 1) : Asc xs := by
  obtain ⟨l⟩ := xs
  unfold Asc
  match l, h with
  | [], _ => exact .nil
  | [x], _ => exact List.pairwise_singleton _ _
  | _ :: _ :: _, h => simp at h
theorem range_getD (ks : List Int) : (List.range ks.length).map (fun j => ks.getD j 0) = ks := by
  apply List.ext_getElem
  · simp
  · intro i h1 h2
    simp [h2]
section
variable {P : Program} {w : World} {A : Around} {E : Value → Shared → Prop} {s : Shared} {a : Addr} {ns : List Int}
theorem set_iter {Q : Value → Shared → Prop} (S : SetG P w s.heap a ns) (hz : ns.length ≤ sizeLine) (k : ∀ it ord h' d, List.Perm ord ns → s.heap.objs.size ≤ it → ItG P w h' it a ord 0 → (∀ b o, s.heap.get? b = some o → h'.get? b = some o) → Q (.ref it) { s with heap := h', drawn := d }) :
    wpAny (model P w) A (pyIter (.ref a)) Q E s := by
  obtain ⟨o, es, ep, t, ks, q, x, d, r, p, nd, f, tb⟩ := S
  have tis : s.TypeIs (.ref a) "set" := ⟨o, q, x.1⟩
  have kl := pairedP_length r
  rw [Array.length_toList] at kl
  have la := Heap.lt_size q
  refine wpAny_pyIter_slot tis F.slot_set_iter (wpAny_call_entry F.slot_set_iter tis SF.entry_iter (?_ : wpAny _ _ (do
    let n ← Builtin.Frozenset.sizeOf a
    let first ← if ← setDrawn a then newTuple ((← drawOrder n (List.range n)).map fun (i : Nat) => rawInt i) else pure (rawInt 0)
    ret (← newFields "set_iterator" [first, rawInt 0, .ref a, rawInt n, rawInt (← setEpoch a)])) _ _ s) (F.args_set_iter_1 _))
  unfold Builtin.Frozenset.sizeOf setDrawn
  refine wpAny_bind (wpAny_bind (wpAny_setEntries_of q d f (wpAny_pure (wpAny_bind (wpAny_bind (wpAny_setState_of q d f (wpAny_bind (byText_wp (wpAny_pure ?_)))))))))
  show wpAny _ _ (if (!byT w && (!t.plain && decide (es.size > 1))) = true then _ else _) _ _ _
  have mk : ∀ (first : Value) (ord : List Int) (h1 : Heap) (d1 : Drawn), List.Perm ord ks → (∀ b o, s.heap.get? b = some o → h1.get? b = some o) → s.heap.objs.size ≤ h1.objs.size → (∀ h2 : Heap, (∀ b o, h1.get? b = some o → h2.get? b = some o) → ModeG P w h2 a es ep t ks ord first 0) →
      wpAny (model P w) A.in1 (do ret (← newFields "set_iterator" [first, rawInt 0, .ref a, rawInt es.size, rawInt (← setEpoch a)])) (fun fin s' => ∃ v, fin = Fin.done (Flow.ret v) ∧ ∃ T f, s'.TypeIs v T ∧ typeLookup (.type T) "__next__" = pure (some f) ∧ Q v s') E { s with heap := h1, drawn := d1 } := fun first ord h1 d1 po k1 hs md => by
    refine wpAny_bind (wpAny_setEpoch_of (k1 _ _ q) d f (wpAny_bind (wpAny_newObj_type (wpAny_pure ⟨_, rfl, "set_iterator", _, ⟨_, Heap.get?_push_size _ rfl, rfl⟩, SF.slot_next.lookup, ?_⟩))))
    have kp : ∀ b o, h1.get? b = some o → (h1.push { cls := .type "set_iterator", data := .fields [first, rawInt 0, .ref a, rawInt es.size, rawInt ep].toArray }).get? b = some o := fun b o e => Heap.get?_push_of_some _ e
    refine k _ ord _ d1 (po.trans p) hs ⟨o, es, ep, t, ks, first, kp _ _ (k1 _ _ q), x.1, d, f, r, tb.led, by rw [po.length_eq, kl], Nat.ne_of_lt (Nat.lt_of_lt_of_le la hs), Heap.get?_push_size _ rfl, md _ kp⟩ fun b o e => kp b o (k1 b o e)
  by_cases hb : byT w = true
  · obtain ⟨ord, p1, r1⟩ := paired_perm (pick_perm (w.params.setOrder a ep) es) r
    rw [if_neg (by rw [hb]; simp)]
    exact wpAny_bind (wpAny_pure (mk (rawInt 0) ord s.heap s.drawn p1 (fun _ _ e => e) (Nat.le_refl _) fun h2 _ => .inl ⟨hb, ⟨_, _, rfl⟩, r1⟩))
  · have hb' : byT w = false := by simpa using hb
    by_cases hd : (!t.plain && decide (es.size > 1)) = true
    · rw [if_pos (by rw [hb', hd]; rfl)]
      refine wpAny_bind (draw_perm es.size (List.range es.size) s (by simp) fun ys d1 hp => wpAny_bind (wpAny_newTuple ?_ ?_))
      · have ht : ∀ h2 : Heap, (∀ b o, (s.heap.push { cls := .type "tuple", data := .seq (ys.map fun (i : Nat) => rawInt i).toArray }).get? b = some o → h2.get? b = some o) → IsTup h2 s.heap.objs.size (ys.map fun (i : Nat) => rawInt (i : Nat)).toArray := fun h2 k2 => ⟨_, k2 _ _ (Heap.get?_push_size _ rfl), rfl, _, rfl⟩
        refine mk (.ref s.heap.objs.size) (ys.map fun j => ks.getD j 0) (s.heap.push { cls := .type "tuple", data := .seq (ys.map fun (i : Nat) => rawInt i).toArray }) d1 ?_ (fun b o e => Heap.get?_push_of_some _ e) (by rw [Heap.size_push]; exact Nat.le_succ _) fun h2 k2 => .inr (.inr ⟨hb', _, ys, rfl, ht h2 k2, hp, rfl⟩)
        have := hp.map fun j => ks.getD j 0
        rw [kl, range_getD] at this
        exact this
      · rw [List.length_map, hp.length_eq, List.length_range, kl, p.length_eq]
        exact hz
    · have hd' : (!t.plain && decide (es.size > 1)) = false := by simpa using hd
      rw [if_neg (by rw [hd']; simp)]
      refine wpAny_bind (wpAny_pure (mk (rawInt 0) ks s.heap s.drawn (List.Perm.refl _) (fun _ _ e => e) (Nat.le_refl _) fun h2 _ => .inr (.inl ⟨hb', hd', ?_, rfl, rfl⟩)))
      cases hp : t.plain with
      | true => exact tb.asc hp
      | false =>
        rw [hp] at hd'
        refine asc_short ?_
        rw [fit_place f]
        simpa using hd'
theorem collect_set {Q : List Value → Shared → Prop} (hh : A.handled = none) (S : SetG P w s.heap a ns) (hz : ns.length ≤ sizeLine) (k : ∀ vs ord h' d, IntsAre vs ord → List.Perm ord ns → (∀ b o, s.heap.get? b = some o → h'.get? b = some o) → Q vs { s with heap := h', drawn := d }) :
    wpAny (model P w) A (collect (.ref a)) Q E s := by
  have la : a < s.heap.objs.size := by
    obtain ⟨o, es, ep, t, ks, q, _⟩ := S
    exact Heap.lt_size q
  unfold collect
  refine wpAny_bind (wpAny_runValue (codeAny_builtin F.entry_proto_collect (?_ : wpAny _ _ _ _ _ s)))
  rw [(Around.under_plainId F.plain_proto_collect _)]
  show wpAny _ A.in1 (newList [] >>= fun l => again (.builtin "list.__iadd__" ⟨[l, .ref a], []⟩)) _ _ s
  refine (wpAny_bind (wpAny_newObj_type ?_))
  refine (wpAny_pure ⟨plainId_quiet F.plain_list_iadd _, (codeAny_builtin F.entry_list_iadd ?_)⟩)
  rw [(Around.under_plainId F.plain_list_iadd _)]
  show wpAny _ A.in1 (Builtin.List.listExtendWith (.ref s.heap.objs.size) (.ref a) (.ref s.heap.objs.size)) _ _ _
  unfold Builtin.List.listExtendWith
  generalize hH : s.heap.push { cls := .type "list", data := .seq ([] : List Value).toArray } = H1
  have kp : ∀ b o, s.heap.get? b = some o → H1.get? b = some o := fun b o e => by rw [← hH]; exact Heap.get?_push_of_some _ e
  have eS : H1.get? s.heap.objs.size = some { cls := .type "list", data := .seq ([] : List Value).toArray } := by rw [← hH]; exact Heap.get?_push_size _ rfl
  have z1 : H1.objs.size = s.heap.objs.size + 1 := by rw [← hH]; exact Heap.size_push _ _
  have S1 : SetG P w H1 a ns := S.keep fun o e => kp _ _ e
  have tis : Shared.TypeIs { s with heap := H1 } (.ref a) "set" := by
    obtain ⟨o, es, ep, t, ks, q, x, _⟩ := S1
    exact ⟨o, q, x.1⟩
  refine wpAny_bind (wpAny_typeOf tis ?_)
  have g1 : Builtin.List.listSameRef (.ref s.heap.objs.size) (.ref a) = false := by simp [Builtin.List.listSameRef, Nat.ne_of_gt la]
  have g2 : (Value.type "set" == Value.type "list") = false := by decide
  have g3 : (Value.type "set" == Value.type "tuple") = false := by decide
  simp only [g1, g2, g3, Bool.or_false, Bool.false_eq_true, if_false]
  refine wpAny_bind (set_iter (s := { s with heap := H1 }) S1 hz fun it ord h2 d2 po hge g k2 => wpAny_bind (wpAny_holding ?_))
  have tis2 : Shared.TypeIs { s with heap := h2, drawn := d2 } (.ref a) "set" := by
    obtain ⟨o, e, c⟩ := tis
    exact ⟨o, k2 _ _ e, c⟩
  unfold Builtin.List.listLengthHint
  refine wpAny_bind (wpAny_specialOf tis2 SF.len_set ?_)
  wp_delta
  refine (wpAny_bind (wpAny_isInstance tis2 (b := true) (by rw [isSubtype_type]; kernel_rfl) (?_ : wpAny _ A.in1 (typeOf (Value.ref a) >>= _) _ _ _)))
  refine wpAny_bind (wpAny_typeOf tis2 (wpAny_pure ?_))
  rw [if_pos (by decide)]
  have nS : s.heap.objs.size ≠ it := fun z => absurd hge (by rw [← z, z1]; exact Nat.not_succ_le_self _)
  have eS2 := k2 _ _ eS
  have eS3 := Heap.get?_update_self (Obj.mapSeq (·.push Value.none)) eS2 rfl
  have eS4 := Heap.get?_update_self (Obj.mapSeq (·.pop)) eS3 rfl
  have sb := (Heap.SameBut.update h2 s.heap.objs.size (Obj.mapSeq (·.push Value.none))).trans (Heap.SameBut.update _ s.heap.objs.size (Obj.mapSeq (·.pop)))
  refine wpAny_bind (wpAny_rule (wpAny_bind (?_ : wpAny _ A.in1 (updateSeq s.heap.objs.size (·.push .none) >>= fun _ => updateSeq s.heap.objs.size (·.pop)) _ _ _)))
  refine wpAny_bind (wpAny_updateSeq eS2 rfl (wpAny_updateSeq eS3 rfl ?_))
  refine wpAny_pure ⟨plainId_quiet F.plain_extend_loop _, ?_⟩
  refine ext_loop (P := P) (w := w) (it := it) (a := a) (ord := ord) hh nS (by rw [po.length_eq]; exact hz) (ord.length - 0) 0 _ [] 2 rfl (Nat.zero_le _) (g.keep fun b o z y => (sb.2 b fun w => ?_).trans y) eS4 .nil fun h3 acc c k3 e3 a3 => ?_
  · rw [w, eS2] at y; cases y; exact z rfl
  show wpAny _ A (load s.heap.objs.size >>= _) _ _ _
  refine (wpAny_bind (wpAny_load e3 (wpAny_pure ?_)))
  have nb : ∀ b o, s.heap.get? b = some o → b ≠ it ∧ b ≠ s.heap.objs.size := fun b o e => by
    have := Heap.lt_size e
    have hge' : H1.objs.size ≤ it := hge
    rw [z1] at hge'
    exact ⟨Nat.ne_of_lt (Nat.lt_of_lt_of_le this (Nat.le_trans (Nat.le_succ _) hge')), Nat.ne_of_lt this⟩
  exact k _ ord h3 d2 a3 po fun b o e => k3 b o (nb b o e).1 (nb b o e).2 ((sb.2 b (nb b o e).2).trans (k2 b o (kp b o e)))
end
/-! ### set(xs), sorted(set(xs)) over the layer -/
/-- a set of ints, no two equal -/
def setO (P : Program) (w : World) (a : Addr) (ns : List Int) : HO := .ext fun h => SetG P w h a ns
theorem setO_ok {P : Program} {w : World} {H : Hp} {h : Heap} {a : Addr} {ns : List Int} (S : SetG P w h a ns) : ObjOk P w H h a (setO P w a ns) := by
  obtain ⟨o, es, ep, t, ks, q, _⟩ := id S
  exact ⟨S, ⟨o, q⟩, fun h1 h2 g k => g.keep k⟩
theorem once_eq (ns : List Int) : onceN (fun i => ns.getD i 0) ns.length = onceL ns := by
  unfold onceN
  rw [range_getD]
theorem once_len (ns : List Int) : (onceL ns).length ≤ ns.length := by
  rw [← once_eq]
  exact onceN_len _ _
section
variable {X : Cx}
def rSetI (P : Program) (w : World) (K : PySem.W.Frag) : List V → Hp → VK → Prop := fun xs H Q => ∃ (p : Addr) (ns : List Int), xs = [.ref p] ∧ SqL K H p (ns.map V.int) ∧ ns.length < 4000 ∧ ∀ a, H a = none → Q (.ref a) (upd H a (setO P w a (onceL ns)))
theorem call_setI (hc : X.calm = true) : CallR X (.type "set") (rSetI X.prog X.w X.K) := by
  intro pins s σ H xs us Q I r h
  obtain ⟨p, ns, rfl, hl, hz, q⟩ := h
  obtain ⟨u, rfl, rx⟩ := vals1 r
  cases rx
  obtain ⟨its, rv, pl, hz2⟩ := I.list hl
  have il := rv.length
  rw [List.length_map] at il
  have hs : its.toArray.size = its.length := List.size_toArray
  refine set_call (items := its.toArray) (ns := ns) (I.ok.hd hc) pl.isList (by rw [List.toList_toArray]; exact intsAre_of rv) (by rw [hs]; unfold scanBound; omega) fun h' tk S k => ?_
  rw [hs, ← il, once_eq] at S
  have hn : H s.heap.objs.size = none := I.hok.fresh (Nat.le_refl _)
  have f := I.fpOk (b := s.heap.objs.size) (Nat.le_refl _) hn
  have J : Inv X pins σ H { s with heap := h', toks := tk } := I.kept k
  exact ⟨.ref s.heap.objs.size, _, Inv.adopt (o := setO X.prog X.w s.heap.objs.size (onceL ns)) J hn I.sz f.2.1 f.2.2.2.2.1 f.2.2.2.2.2 (setO_ok S), rfl, q _ hn⟩
/-- sorted(s), s a set of ints -/
def rSortS (P : Program) (w : World) : List V → Hp → VK → Prop := fun xs H Q => ∃ (a : Addr) (ns : List Int), xs = [.ref a] ∧ H a = some (setO P w a ns) ∧ ns.length < 64 ∧ ∀ l zs, H l = none → List.Perm zs ns → zs.Pairwise (· < ·) → Q (.ref l) (upd H l (.lst (zs.map V.int)))
theorem call_sortedS (hc : X.calm = true) : CallR X (.builtin "sorted") (rSortS X.prog X.w) := by
  intro pins s σ H xs us Q I r h
  obtain ⟨a, ns, rfl, ha, h64, q⟩ := h
  obtain ⟨u, rfl, rx⟩ := vals1 r
  cases rx
  have S : SetG X.prog X.w s.heap a ns := (I.hok a _ ha).1
  have nd : ns.Nodup := by
    obtain ⟨o, es, ep, t, ks, _, _, _, _, _, nd, _⟩ := S
    exact nd
  refine sorted_wp (H := H) (collect_set (I.ok.hd hc) S (by rw [sizeLine_eq]; omega) fun vs ord h' d ia po k => ?_)
  have ol := po.length_eq
  have vl := ia.length
  have nd' : ord.Nodup := po.nodup_iff.mpr nd
  obtain ⟨m, F⟩ := I.fr
  have J : Inv X pins σ H { s with heap := h', drawn := d } := Inv.regrown (t' := s.toks) I F.ns (let ⟨o, es, ep, e, rr⟩ := F.ns; ⟨o, es, ep, k _ _ e, rr⟩) fun b o _ e => k b o e
  have inj : ∀ i j, i < vs.length → j < vs.length → ord.getD i 0 = ord.getD j 0 → i = j := fun i j hi hj e => by
    have hi' : i < ord.length := by omega
    have hj' : j < ord.length := by omega
    have e' : ord[i] = ord[j] := by simpa [hi', hj'] using e
    rcases Nat.lt_trichotomy i j with z | z | z
    · exact absurd e' (List.pairwise_iff_getElem.mp nd' i j _ _ z)
    · exact z
    · exact absurd e'.symm (List.pairwise_iff_getElem.mp nd' j i _ _ z)
  refine ⟨ord.map V.int, fun i => ord.getD i 0, J, vals_ints ia, ⟨by omega, inj, fun h2 => ?_⟩, fun l zs hn so => ?_⟩
  · refine ⟨oneType', fun A s' kk => ⟨fun Q' hQ => ?_, fun i j C hi hj ne c => ?_⟩⟩
    · match vs, ia, h2 with
      | v1 :: v2 :: rest, ia, _ => rw [keyKind_ints ia]; exact wpAny_pure hQ
    · unfold kas_ask
      obtain ⟨t1, e1⟩ := IntsAre.int_at ia i _ (List.getElem?_eq_getElem hi)
      obtain ⟨t2, e2⟩ := IntsAre.int_at ia j _ (List.getElem?_eq_getElem hj)
      have g1 : vs.getD i Value.none = .int (ord.getD i 0) t1 := by rw [← e1]; simp [hi]
      have g2 : vs.getD j Value.none = .int (ord.getD j 0) t2 := by rw [← e2]; simp [hj]
      rw [g1, g2]
      exact kat_lt_int c
  · have so' : SortOf ((ord.map fun n => (n, V.int n)).map (·.2)) (fun i => ((ord.map fun n => (n, V.int n)).map (·.1)).getD i 0) zs := by
      rw [List.map_map, List.map_map]
      have e1 : (ord.map ((fun x : Int × V => x.2) ∘ fun n => (n, V.int n))) = ord.map V.int := rfl
      have e2 : (ord.map ((fun x : Int × V => x.1) ∘ fun n => (n, V.int n))) = ord := by
        show ord.map (fun n => n) = ord
        simp
      rw [e1, e2]
      exact so
    obtain ⟨qs, g, pw, rfl⟩ := sortOf_pairs so'
    have hq : ∀ x ∈ qs, x.2 = V.int x.1 := fun x hx => by
      obtain ⟨n, _, e⟩ := List.mem_map.mp (g.mem_iff.mp hx)
      rw [← e]
    have em : qs.map (·.2) = (qs.map (·.1)).map V.int := by
      rw [List.map_map]
      exact List.map_congr_left fun x hx => hq x hx
    rw [em]
    refine q l (qs.map (·.1)) hn ?_ ?_
    · have := g.map (·.1)
      rw [List.map_map] at this
      have e2 : (ord.map ((fun x : Int × V => x.1) ∘ fun n => (n, V.int n))) = ord := by
        show ord.map (fun n => n) = ord
        simp
      rw [e2] at this
      exact this.trans po
    · exact List.pairwise_map.mpr pw
end
end L2

namespace L2
open PySem PySem.Spec PySem.W PyProof.Rows L3

/-! ### isinstance of an exception, where it is one -/
theorem yes_ans {K : Frag} {x t c : Value} {H : Heap → Prop} (ty : ∀ (M : Model) (h : Heap), K.In h → H h → Looks M h (typeOf x) t) (e : kitOne K t c = some true) : Answers (fun s => K.In s.heap ∧ H s.heap) x c true := by
  intro dep tk prog w A R s hs
  obtain ⟨h0, g, d, tt, os⟩ := s
  obtain ⟨⟨kx, p⟩, hq⟩ := hs
  have L0 := ty (model prog w) h0 kx p
  unfold kitOne at e
  unfold Builtin.«isinstance.nested»
  refine (wpAny_bind (L0.at ?_))
  by_cases q : (t == c) = true
  · rw [if_pos q]
    first
      | exact wpAny_bind (wpAny_rule (hq tt))
      | exact wpAny_bind (wpAny_rule (wpAny_pure (hq tt)))
  · rw [if_neg q] at e
    rw [if_neg q]
    obtain ⟨c1, c2, c3⟩ := kit_cls (M := model prog w) kx e
    refine wpAny_bind (c1.at ?_)
    rw [if_pos (by decide)]
    k_delta "plainIsInstance"
    refine (wpAny_bind (wpAny_bind (c2.at ?_)))
    simp only [Bool.not_true, Bool.false_eq_true, if_false]
    refine wpAny_bind ((L0.andThen c3 : Looks (model prog w) h0 (isInstance x c) true).at ?_)
    first
      | exact wpAny_pure (wpAny_pure (hq tt))
      | (simp only [if_true]; first | exact wpAny_pure (wpAny_pure (hq tt)) | exact wpAny_pure (hq tt) | exact wpAny_bind (wpAny_pure (wpAny_pure (hq tt))))
def rIsiX (K : Frag) : List V → Hp → VK → Prop := fun xs H Q => ∃ ea c dd cl cv, xs = [.ref ea, cl] ∧ H ea = some (exo ea c dd) ∧ clsV cl = some cv ∧ kitOne K c cv = some true ∧ Q (.bl true) H
theorem call_isiX {X : Cx} : CallR X (.builtin "isinstance") (rIsiX X.K) := by
  intro pins s σ H xs us Q I r h
  obtain ⟨ea, c, dd, cl, cv, e, he, hc, hk, q⟩ := h
  subst e
  cases r with
  | cons r1 r2 =>
    cases r2 with
    | cons r2 r3 =>
      cases r3
      cases clsV_rel hc r2
      cases r1
      have ho : ∃ o, s.heap.get? ea = some o ∧ o.cls = c := by
        obtain ⟨⟨o, vs, e, c1, _⟩, _⟩ := I.hok ea _ he
        exact ⟨o, e, c1⟩
      have ty : ∀ (M : Model) (h : Heap), X.K.In h → (∃ o, h.get? ea = some o ∧ o.cls = c) → Looks M h (typeOf (.ref ea)) c := fun M h _ p => by
        obtain ⟨o, e, z⟩ := p
        exact z ▸ (Looks.ld e).andThen .now
      exact call_isinstance (S := fun _ R s => (X.K.In s.heap ∧ ∃ o, s.heap.get? ea = some o ∧ o.cls = c) ∧ ∀ tk, R (.ok (.ret (.bool true))) { s with toks := tk })
        (fun prog w A R s hs => isinstance_outer (yes_ans ty hk 0 _ prog w A R s hs) (fun z => nomatch z)) ⟨⟨I.kIn, ho⟩, fun tk => ⟨.bl true, H, I.tok tk, rfl, q⟩⟩
theorem isiX_K {X : Cx} (K : Frag) (h : X.K = K := by rfl) : CallR X (.builtin "isinstance") (rIsiX K) := by subst h; exact call_isiX
end L2

namespace L2
open PySem PySem.Spec PyProof.Rows L3
/-! ### o.m(..) that may raise -/
section
variable {X : Cx} {k : Nat} {f C : Addr} {fd : FuncData} {ps : List Str} {sp : Sp} {dvs : List V} {ds : List Value} {W : WX} {x m : Str} {p pos apos : Pos} {e o : Expr} {es : List Expr} {ta : TE} {t : TA} {P : Program} {w : World}
end
/-! ### a def whose code object is known (it makes lambdas) -/
structure FunC (K : PySem.W.Frag) (x qual : Str) (st : Stmt) (f : Addr) (fd : FuncData) (c : Addr) : Prop where
  ex : ∃ (oc : Value) (od : Option Addr) (kV doc pm : Value) (an : Option Addr) (ct : Value) (osl : Array (Option Value)),
    fd = PySem.W.fnOf x qual (defArgs st) (defBody st) (defScope st) .none kV doc pm an (.ref c) ct ∧ K.lookup f = some ⟨oc, od, .func fd, osl⟩ ∧ PySem.W.codeIn K (.ref c) qual = true
  kp : PySem.W.keepIn K (.ref f) = true
section
variable {P : Program} {w : World} {K : PySem.W.Frag} {mg : Str → Option Value} {base : Heap}
end
end L2

namespace L2
open PySem PySem.Spec PyProof.Rows
/-! ### rules whose reading names the written part alone (for blocks within a def) -/
section
variable {X : Cx}
theorem ixl_K (K : PySem.W.Frag) (h : X.K = K := by rfl) : IxR X (rIxL K) := by subst h; exact ix_list
end
end L2

namespace L2
open PySem PySem.Spec PyProof.Rows PySem.SeqAt
/-! ### data that is like itself -/
mutual
def noDict : PyData → Bool
  | .dict _ => false
  | .list xs => noDictAll xs
  | .tuple xs => noDictAll xs
  | _ => true
def noDictAll : List PyData → Bool
  | [] => true
  | x :: xs => noDict x && noDictAll xs
end
mutual
theorem noMix_self : ∀ d : PyData, noDict d = true → noMix d d = true ∧ same d d = true
  | .none, _ => ⟨rfl, rfl⟩
  | .bool b, _ => ⟨rfl, by simp [same]⟩
  | .int i, _ => ⟨rfl, by simp [same]⟩
  | .str x, _ => ⟨rfl, by simp [same]⟩
  | .list xs, h => by
    rw [noMix, same]
    exact noMixAll_self xs (by rw [noDict] at h; exact h)
  | .tuple xs, h => by
    rw [noMix, same]
    exact noMixAll_self xs (by rw [noDict] at h; exact h)
  | .dict _, h => by rw [noDict] at h; cases h
theorem noMixAll_self : ∀ xs : List PyData, noDictAll xs = true → noMixAll xs xs = true ∧ sameAll xs xs = true
  | [], _ => ⟨by rw [noMixAll], by rw [sameAll]⟩
  | x :: xs, h => by
    rw [noDictAll, Bool.and_eq_true] at h
    obtain ⟨a, b⟩ := noMix_self x h.1
    obtain ⟨c, d⟩ := noMixAll_self xs h.2
    rw [noMixAll, sameAll, a, b, c, d]
    exact ⟨rfl, rfl⟩
end
mutual
theorem canLay_noDict : ∀ d : PyData, d.canLay0 = true → noDict d = true
  | .none, _ => rfl
  | .bool b, _ => rfl
  | .int i, _ => rfl
  | .str x, _ => rfl
  | .list xs, h => by rw [noDict]; exact canLayAll_noDict xs (by rw [PyData.canLay0] at h; exact h)
  | .tuple xs, h => by rw [noDict]; exact canLayAll_noDict xs (by rw [PyData.canLay0] at h; exact h)
  | .dict _, h => by rw [PyData.canLay0] at h; cases h
theorem canLayAll_noDict : ∀ xs : List PyData, PyData.canLayAll0 xs = true → noDictAll xs = true
  | [], _ => by rw [noDictAll]
  | x :: xs, h => by
    rw [PyData.canLayAll0, Bool.and_eq_true] at h
    rw [noDictAll, canLay_noDict x h.1, canLayAll_noDict xs h.2]
    rfl
end
theorem self_of {d : PyData} (h : shaped d = true) : noMix d d = true ∧ same d d = true := noMix_self d (canLay_noDict d (canLay_of_shaped h))
theorem neD_self {K : PySem.W.Frag} {H : Hp} {x y : V} {Q : VK} {d : PyData} (hx : DatV K H x d) (hy : DatV K H y d) (hs : shaped d = true) (q : Q (.bl false) H) : rEqD K true x y H Q := by
  obtain ⟨a, b⟩ := self_of hs
  refine ⟨d, d, hx, hy, hs, hs, a, ?_⟩
  rw [if_pos rfl, b]
  exact q
theorem canLay_map {α : Type} {f : α → PyData} : ∀ {l : List α}, (∀ a ∈ l, (f a).canLay0 = true) → PyData.canLayAll0 (l.map f) = true
  | [], _ => by simp [PyData.canLayAll0]
  | a :: l, h => by
    rw [List.map_cons, PyData.canLayAll0, h a List.mem_cons_self, canLay_map fun b hb => h b (List.mem_cons_of_mem _ hb)]
    rfl
theorem depth_map {α : Type} {f : α → PyData} {k : Nat} : ∀ {l : List α}, (∀ a ∈ l, (f a).depth ≤ k) → PyData.depthAll (l.map f) ≤ k
  | [], _ => by simp [PyData.depthAll]
  | a :: l, h => by
    have h1 := h a List.mem_cons_self
    have h2 := depth_map fun b hb => h b (List.mem_cons_of_mem _ hb)
    simp only [List.map_cons, PyData.depthAll]
    omega
theorem shaped_map {α : Type} {f : α → PyData} {l : List α} (h1 : ∀ a ∈ l, (f a).canLay0 = true) (h2 : ∀ a ∈ l, (f a).depth ≤ 60) : shaped (.list (l.map f)) = true := by
  have d := depth_map h2
  unfold shaped
  rw [Bool.and_eq_true]
  refine ⟨by simp only [PyData.canLay0]; exact canLay_map h1, decide_eq_true ?_⟩
  simp only [PyData.depth]
  omega
end L2

namespace L2
open PySem PySem.Spec PyProof.Rows
section
variable {X : Cx} {CX : CXT} {k : Nat} {E : XK} {m : Str} {pos apos : Pos} {e o : Expr} {es : List Expr} {ta : TE} {t : TA}
/-- o.m(e, ..), whatever class o is of -/
def tMethDA (P : Program) (w : World) (K : PySem.W.Frag) (mg : Str → Option Value) (base : Heap) (CX : CXT) (k : Nat) (m : Str) (E : XK) (ta : TE) (t : TA) : TE := fun σ H Q => ta σ H fun x H1 => ∃ a C dx fs f fd ps sp, x = .ref a ∧ H1 a = some (.ins C dx fs) ∧ fs.lookup m = none ∧ Cls K C ∧ Meth K C m f ∧
  FnOk P w K mg base CX k f fd ps sp ∧ Binds K fd ps [] ∧ t σ H1 fun vs H2 => sp (.ref a :: vs) H2 Q E
theorem pe_methDA {P : Program} {w : World} {K : PySem.W.Frag} {mg : Str → Option Value} {base : Heap} {pl : Sem Bool} (he : PE X o ta) (hr : Room k X.A) (hx : Passes CX X E) (ha : PA X (e :: es) t) (hP : X.prog = P := by rfl) (hw : X.w = w := by rfl) (hK : X.K = K := by rfl) (hmg : X.mg = mg := by rfl) (hbs : X.base = base := by rfl)
    (hst : (starEach (e :: es) X.env) = ((false, eval e X.env) :: starEach es X.env) := by rfl) (hpl : ((backTo pos (starEach es X.env)).any (·.1)) = false := by rfl)
    (ht : eval (.Call (.Attribute o m apos) (e :: es) [] pos) X.env = (do
      let ov ← (eval o X.env)
      standAt apos.atName
      let (f, first) ← (holding [ov] (getMethod ov m pl))
      (callWith pos f first (backTo pos (starEach (e :: es) X.env)) (backToKw pos (keywordEach [] X.env)))) := by rfl) :
    PE X (.Call (.Attribute o m apos) (e :: es) [] pos) (tMethDA P w K mg base CX k m E ta t) := by
  subst hP hw hK hmg hbs
  intro pins s σ H Q I h
  refine PySem.W.methodCall_KW (pl := pl) (thn (he pins s σ H _ I h) fun u s1 hh => ?_) ht
  obtain ⟨x, H1, I1, rx, a, C, dx, fs, f, fd, ps, sp, ex, ea, l, c, hm, F, hb, q⟩ := hh
  subst ex
  obtain rfl : u = Value.ref a := rx
  refine getmeth_ok I1 ea c hm l ?_
  refine PySem.W.callWith_K (first := [.ref a]) (h₀ := X.base) I.ok.mod.kin hm.kp (thn (ha pos pins s1 σ H1 _ I1 q) fun us s2 ⟨vs, H2, I2, r, q2⟩ => ⟨I2.kIn, ?_⟩) hst hpl
  exact run_fn (us := .ref a :: us) (vs := .ref a :: vs) (dvs := []) (ds := []) F hr hb .nil hx I2 (.cons rfl r) (by rw [List.append_nil]; exact q2)
end
end L2

namespace L2
open PySem PySem.Spec PyProof.Rows
open Sem (wp)
/-! ### a tuple times an int -/
theorem tupNoFill : fillsNumberSlot (.type "tuple") "mul" = pure false :=
  (PySem.fillsNumberSlot_seq (id := "tuple.__mul__") (r := some (.builtin "tuple.__rmul__")) F.slot_tuple_mul.lookup (by decide +kernel) F.slot_tuple_rmul.lookup (by decide +kernel))
theorem tupRepeats : seqRepeat? (.type "tuple") = pure (some (.builtin "tuple.__mul__")) := by
  unfold seqRepeat?
  rw [(PySem.seqSlot_of (T := "tuple") (name := "__mul__") (id := "tuple.__mul__") F.slot_tuple_mul.lookup (by decide +kernel)), (PySem.seqSlot_of (T := "tuple") (name := "__rmul__") (id := "tuple.__rmul__") F.slot_tuple_rmul.lookup (by decide +kernel))]
  rfl
theorem int_rmul_tup (k : Int) (t : Tok) (l : Addr) (items : Array Value) (n : Nat) (dd : Option Addr) (sl : Array (Option Value)) :
    Meets (Builtin.«int.__rmul__» ⟨[.int k t, .ref l], []⟩) (fun _ R s => s.heap.get? l = some ⟨.type "tuple", dd, .seq items n, sl⟩ ∧ R (.ok (.ret Value.notImplemented)) s) :=
  .of_wp fun prog w A R s h => by obtain ⟨hp, g, d, tk, os⟩ := s; obtain ⟨hl, h⟩ := h; wp_walk; exact (⟨_, rfl, h⟩)
theorem tup_mul0 (l : Addr) (items : Array Value) (n : Nat) (dd : Option Addr) (sl : Array (Option Value)) (t : Tok) (hv : items.isEmpty = false) :
    Meets (Builtin.«tuple.__mul__» ⟨[.ref l, .int 0 t], []⟩) (fun _ R s => s.heap.get? l = some ⟨.type "tuple", dd, .seq items n, sl⟩ ∧ R (.ok (.ret (.ref s.heap.objs.size))) { s with heap := s.heap.push { cls := .type "tuple", data := .seq #[] } }) :=
  .of_wp fun prog w A R s h => by
    obtain ⟨hp, g, d, tk, os⟩ := s
    obtain ⟨hl, h⟩ := h
    wp_walk
    exact ⟨_, rfl, h⟩
theorem tup_mulN (l : Addr) (items : Array Value) (n : Nat) (dd : Option Addr) (sl : Array (Option Value)) (k : Int) (t : Tok) (hv : items.isEmpty = false) (h1 : 1 < k) (h2 : k < 2 ^ 62) (hz : items.size * k.toNat ≤ sizeLine) :
    Meets (Builtin.«tuple.__mul__» ⟨[.ref l, .int k t], []⟩) (fun _ R s => s.heap.get? l = some ⟨.type "tuple", dd, .seq items n, sl⟩ ∧ R (.ok (.ret (.ref s.heap.objs.size))) { s with heap := s.heap.push { cls := .type "tuple", data := .seq ((List.replicate k.toNat items).foldl (· ++ ·) #[]) } }) :=
  .of_wp fun prog w A R s h => by
    obtain ⟨hp, g, d, tk, os⟩ := s
    obtain ⟨hl, h⟩ := h
    have ek : ((k.toNat : Nat) : Int) = k := by omega
    have ez : (items.size : Int) * k = ((items.size * k.toNat : Nat) : Int) := by rw [Int.natCast_mul, ek]
    have hz' : items.size * k.toNat ≤ 2 ^ 40 := Nat.le_trans hz (by decide)
    have c1 : ¬ ((decide (k < -2 ^ 63) || decide (k ≥ 2 ^ 63)) = true) := by
      rw [decide_eq_false (by omega), decide_eq_false (by omega)]; exact Bool.false_ne_true
    have c2 : ¬ ((items.isEmpty || k == 1) = true) := by
      rw [hv, beq_eq_false_iff_ne.mpr (by omega)]; exact Bool.false_ne_true
    have c3 : ¬ ((decide (k ≤ 0) || items.isEmpty) = true) := by
      rw [hv, decide_eq_false (by omega)]; exact Bool.false_ne_true
    have c4 : ¬ ((items.size : Int) * k > (2 ^ 63 - 1) / 8) := by
      rw [ez]; omega
    have c5 : ¬ (Builtin.Tuple.tupleTooMany ((items.size : Int) * k) = true) := by
      rw [ez]
      unfold Builtin.Tuple.tupleTooMany
      simp only [decide_eq_true_eq]
      have : (sizeLine : Nat) ≤ sizeLine := Nat.le_refl _
      omega
    have c6 : sizeOk (.seq ((List.replicate k.toNat items).foldl (· ++ ·) #[])) := by
      show ((List.replicate k.toNat items).foldl (· ++ ·) #[]).size ≤ sizeLine
      have := foldl_rep items.toList k.toNat []
      simp only [Array.toArray_toList, List.nil_append] at this
      rw [this, List.size_toArray, len_rep, Array.length_toList, Nat.mul_comm]
      exact hz
    wp_walk
    rw [if_neg c1]
    wp_walk
    rw [if_neg c2]
    wp_walk
    rw [if_neg c3]
    dsimp only
    rw [if_neg c4]
    rw [if_neg c5]
    refine wpAny_bind (m := Builtin.Tuple.tupleExact _) (wpAny_newObj_type ?_ c6)
    exact wpAny_pure ⟨_, rfl, h⟩
section
variable {X : Cx}
/-- t * k: t not empty, k not 1 -/
def rRepT (K : PySem.W.Frag) : R2 := fun x y H Q => ∃ a k xs, x = .ref a ∧ y = .int k ∧ SqT K H a xs ∧ xs ≠ [] ∧ (k = 0 ∨ 1 < k) ∧ k < 2 ^ 62 ∧ xs.length * k.toNat ≤ sizeLine ∧
  ∀ p, H p = none → Q (.ref p) (upd H p (.tup (List.replicate k.toNat xs).flatten))
theorem op_repT : OpR X (binaryOp .Mult) (rRepT X.K) := by
  intro pins s σ H x y v u Q I rx ry h
  obtain ⟨a, k, xs, rfl, rfl, ha, hx, hk, h2, hz, q⟩ := h
  cases rx
  obtain ⟨t, rfl⟩ := ry
  obtain ⟨its, r, ht, hl⟩ := I.tuple ha
  have lr : xs.length = its.length := r.length
  have hne : its.toArray.isEmpty = false := by
    cases its with
    | nil => exact absurd (List.length_eq_zero_iff.mp lr) hx
    | cons a b => rfl
  obtain ⟨⟨cls, dd, data, sl⟩, ho, hc, n, hd⟩ := id ht
  simp only at hc hd
  subst hc hd
  refine wpAny_binaryOp_repeat_ref (T := "tuple") (U := "int") (by decide) ⟨_, ho, rfl⟩ (fun s' => typeIs_int s' k t) tupNoFill F.fills_int_mul F.slot_int_rmul tupRepeats F.slot_int_index.lookup
    (call_meets F.slot_int_rmul (typeIs_int s k t) F.entry_int_rmul (F.args_int_rmul_2 _ _) (int_rmul_tup k t a its.toArray n dd sl) ⟨ho, rfl, ⟨_, ho, rfl⟩, ?_⟩)
  rcases hk with rfl | hk
  · refine call_meets F.slot_tuple_mul ⟨_, ho, rfl⟩ F.entry_tuple_mul (F.args_tuple_mul_2 _ _) (tup_mul0 a its.toArray n dd sl t hne) ⟨ho, ?_⟩
    refine ⟨.ref s.heap.objs.size, _, I.laid (t' := s.toks) (o := .tup []) (fun b ob q => Heap.get?_push_of_some _ q) (Nat.le_refl _) ?_, rfl, q _ (I.hok.fresh (Nat.le_refl _))⟩
    exact ⟨Nat.zero_le _, [], .nil, IsTup.new _ _⟩
  · refine call_meets F.slot_tuple_mul ⟨_, ho, rfl⟩ F.entry_tuple_mul (F.args_tuple_mul_2 _ _) (tup_mulN a its.toArray n dd sl k t hne hk h2 (by rw [List.size_toArray, ← lr]; exact hz)) ⟨ho, ?_⟩
    have e : List.foldl (fun x1 x2 => x1 ++ x2) #[] (List.replicate k.toNat its.toArray) = (List.replicate k.toNat its).flatten.toArray := by
      have := foldl_rep its k.toNat []
      rw [List.nil_append] at this
      exact this
    rw [e]
    refine ⟨.ref s.heap.objs.size, _, I.laid (t' := s.toks) (o := .tup (List.replicate k.toNat xs).flatten) (fun b ob q => Heap.get?_push_of_some _ q) (Nat.le_refl _) ?_, rfl, q _ (I.hok.fresh (Nat.le_refl _))⟩
    exact ⟨by rw [len_rep, Nat.mul_comm]; exact hz, _, r.rep k.toNat, IsTup.new _ _⟩
end
end L2

namespace HT
open PySem PySem.Spec PyProof.Rows
open Sem (wp)
section
variable {prog : Program} {w : World} {A : Around} {E : Value → Shared → Prop} {s : Shared}
/-- t[a:b] where it is the whole: t itself -/
theorem getItem_tuple_all {t sl : Addr} {items : Array Value} {vl vu : Value} {lo hi : Option Int} {Q : Value → Shared → Prop} (ht : IsTup s.heap t items) (hs : s.heap.IsSliceOf sl vl vu .none) (pl : IsPart vl lo) (pu : IsPart vu hi)
    (hw : sIx items.size 0 lo = 0 ∧ sIx items.size items.size hi = items.size) (h : Q (.ref t) s) : wpAny (model prog w) A (getItem (.ref t) (.ref sl)) Q E s := by
  obtain ⟨os, hos, hcs, hds⟩ := id hs
  have hTs : (s.TypeIs (.ref sl) "slice") := ⟨os, hos, hcs⟩
  unfold getItem
  try with_reducible refine wpAny_holding ?_
  first | refine wpAny_bind (wpAny_pure ?_) | skip
  refine (wpAny_bind (wpAny_sequenceKey ht.typeIs (by decide) ?_))
  refine (wpAny_bind (wpAny_callSpecial?_slot (name := Str.ofString "__getitem__") ht.typeIs PyProof.Rows.slot_tuple_getitem (wpAny_call_entry PyProof.Rows.slot_tuple_getitem ht.typeIs entry_tuple_getitem ?_ (args_tuple_getitem _ _))))
  show wpAny _ _ ((Builtin.Tuple.tupleItemsOf (.ref t)) >>= _) _ _ s
  refine (wpAny_bind (tupleItemsOf_ ht ?_))
  refine (wpAny_bind (wpAny_typeOf hTs ?_))
  rw [if_pos (by decide)]
  refine (wpAny_bind (sliceApplied_gen hs pl pu ?_))
  have hyes : ((((sIx items.size 0 lo : Nat) : Int) == 0 && (1 : Int) == 1 && (sIx items.size items.size hi - sIx items.size 0 lo) == items.size) = true) := by
    rw [hw.1, hw.2]; simp
  show wpAny _ _ (if ((((sIx items.size 0 lo : Nat) : Int) == 0 && (1 : Int) == 1 && (sIx items.size items.size hi - sIx items.size 0 lo) == items.size)) = true then _ else _) _ _ s
  rw [if_pos hyes]
  unfold Builtin.Tuple.tupleIsExact
  refine wpAny_bind (wpAny_bind (wpAny_typeOf ht.typeIs (wpAny_pure ?_)))
  rw [if_pos (by decide)]
  refine wpAny_bind (wpAny_rule ?_)
  first
    | exact wpAny_pure ⟨_, rfl, wpAny_pure h⟩
    | exact wpAny_bind (wpAny_pure (wpAny_pure ⟨_, rfl, wpAny_pure h⟩))
    | (wp_walk; exact ⟨_, rfl, wpAny_pure h⟩)
end
end HT
namespace L2
open PySem PySem.Spec PyProof.Rows
section
variable {X : Cx}
/-- t[lo:hi]: the whole of it is t itself -/
def rSlT2 (K : PySem.W.Frag) : V → Option Int → Option Int → Hp → VK → Prop := fun x lo hi H Q => ∃ a xs, x = .ref a ∧ SqT K H a xs ∧
  ((HT.sIx xs.length 0 lo = 0 ∧ HT.sIx xs.length xs.length hi = xs.length) → Q (.ref a) H) ∧ (¬ (HT.sIx xs.length 0 lo = 0 ∧ HT.sIx xs.length xs.length hi = xs.length) → ∀ p, H p = none → Q (.ref p) (upd H p (.tup (cutV xs lo hi))))
theorem sl_tup2 : SlR X (rSlT2 X.K) := by
  intro pins s σ H x v vl vu lo hi sl Q I rx hs pl pu h
  obtain ⟨a, xs, rfl, hx, q1, q2⟩ := h
  by_cases hw : (HT.sIx xs.length 0 lo = 0 ∧ HT.sIx xs.length xs.length hi = xs.length)
  · cases rx
    obtain ⟨its, r, ht, hz⟩ := I.tuple hx
    have hlen : its.toArray.size = xs.length := by rw [List.size_toArray]; exact r.length.symm
    refine ⟨"tuple", _, PyProof.Rows.slot_tuple_getitem.lookup, ht.typeIs, ?_⟩
    exact HT.getItem_tuple_all ht hs pl pu (by rw [hlen]; exact hw) ⟨.ref a, H, I, rfl, q1 hw⟩
  · exact sl_tup pins s σ H _ v vl vu lo hi sl Q I rx hs pl pu ⟨a, xs, rfl, hx, hw, q2 hw⟩
end
end L2

set_option genInjectivity false
namespace TL
open PySem PySem.Spec PyProof.Rows L2 L3
def top (i : Nat) : Stmt := PySem.Challenge.pw_traylate_k01_steps_told.main.body.getD i (.Pass ⟨0, 0, 0, 0⟩)
abbrev sInit : Stmt := inClass (top 8) 0
abbrev sWhole : Stmt := top 16
abbrev sBounds : Stmt := top 17
abbrev sIsStep : Stmt := top 18
abbrev sStepOf : Stmt := top 19
abbrev sPutI : Stmt := inClass (top 9) 0
abbrev sAddI : Stmt := inClass (top 10) 0
abbrev sSetI : Stmt := inClass (top 11) 0
abbrev sLookI : Stmt := inClass (top 12) 0
abbrev sSwapI : Stmt := inClass (top 13) 0
abbrev sSkipI : Stmt := inClass (top 15) 0
/-- Python's own names are not hidden -/
structure Bl (mg : Str → Option Value) : Prop where
  isi : mg "isinstance" = none
  int : mg "int" = none
  bool : mg "bool" = none
  str : mg "str" = none
  tuple : mg "tuple" = none
  len : mg "len" = none
  all : mg "all" = none
  zip : mg "zip" = none
/-- the file's numbers -/
structure Cn (mg : Str → Option Value) : Prop where
  top : ∃ u, mg "TOP" = some u ∧ RelV (.int TOPi) u
  names : ∃ u, mg "NAMES" = some u ∧ RelV (.int 12) u
  regs : ∃ u, mg "REGISTERS" = some u ∧ RelV (.int 4) u
  long : ∃ u, mg "LONGEST" = some u ∧ RelV (.int 120) u
section
variable {P : Program} {w : World} {K : PySem.W.Frag} {mg : Str → Option Value} {base : Heap}
def spWhole : Sp := fun vs H Q _ => ∃ v T, vs = [v] ∧ tyName H v = some T ∧ Q (.bl (isW v)) H
theorem scWhole : FnScope ["thing"] ["thing"] (defScope sWhole) := ⟨rfl, rfl, rfl, by decide +kernel, rfl, by decide +kernel, by decide +kernel⟩
theorem ok_whole {f : Addr} {fd : FuncData} (F : Fun K "is_whole" "is_whole" sWhole f fd) (B : Bl mg) : FnOk P w K mg base CX0 1 f fd ["thing"] spWhole := by
  refine F.ok scWhole (fun vs H Q E h => ?_) (fun cdv A outer s H vs Q E hr h => ?_)
  · obtain ⟨v, T, rfl, _⟩ := h
    rfl
  · obtain ⟨v, T, rfl, ht, k⟩ := h
    refine ⟨_, pss_one (ps_ret (pe_and (pe_callB call_isi rfl B.isi boot_isinstance (pa_cons (pv 0) (pa_cons (pe_bltn (v := .ty "int") rfl B.int boot_int rfl) pa_nil)))
      (pe_one (pe_not (pe_callB call_isi rfl B.isi boot_isinstance (pa_cons (pv 0) (pa_cons (pe_bltn (v := .ty "bool") rfl B.bool boot_bool rfl) pa_nil))))))), ?_⟩
    have e := isW_of ht
    refine ⟨v, rfl, _, _, _, _, _, rfl, tyT ht, rfl, kitU ht (by decide), _, rfl, iteB (fun h1 => ?_) (fun h1 => ?_)⟩
    · refine ⟨v, rfl, _, _, _, _, _, rfl, tyT ht, rfl, kitU ht (by decide), _, rfl, ?_⟩
      rw [h1, Bool.true_and] at e
      rw [e]
      exact k
    · rw [h1, Bool.false_and] at e
      rw [e]
      exact k

def spBounds : Sp := fun vs H Q _ => ∃ x, vs = [.str x] ∧ (boundsM x = none → Q .non H) ∧ ∀ bs, boundsM x = some bs → ∀ p, H p = none → Q (.ref p) (upd H p (.lst (bs.map V.int)))
theorem scBounds : FnScope ["word"] ["word"] (defScope sBounds) := ⟨rfl, rfl, rfl, by decide +kernel, rfl, by decide +kernel, by decide +kernel⟩
theorem str_inj {x y : Str} (h : V.str x = V.str y) : x = y := by injection h
theorem ok_bounds {f : Addr} {fd : FuncData} (F : Fun K "bounds_of" "bounds_of" sBounds f fd) (C : Cn mg) : FnOk P w K mg base CX0 1 f fd ["word"] spBounds := by
  refine F.ok scBounds (fun vs H Q E h => ?_) (fun cdv A outer s H vs Q E hr h => ?_)
  · obtain ⟨v, rfl, _⟩ := h
    rfl
  · obtain ⟨x, rfl, k0, k1⟩ := h
    obtain ⟨uT, mT, rT⟩ := C.top
    obtain ⟨uN, mN, rN⟩ := C.names
    obtain ⟨uR, mR, rR⟩ := C.regs
    obtain ⟨uL, mL, rL⟩ := C.long
    refine ⟨_, pss_cons (ps_if (pt_cmpR op_eq (pv 0) pe_str (nomark _)) (pss_one (ps_ret (pe_lst (pa_cons (pe_glob rfl mR rR) (pa_cons (pe_glob rfl mT rT) pa_nil))))) pss_nil)
      (pss_cons (ps_if (pt_cmpR op_eq (pv 0) pe_str (nomark _)) (pss_one (ps_ret (pe_lst (pa_cons (pe_glob rfl mR rR) (pa_cons (pe_glob rfl mR rR) pa_nil))))) pss_nil)
      (pss_cons (ps_if (pt_cmpR op_eq (pv 0) pe_str (nomark _)) (pss_one (ps_ret (pe_lst (pa_cons (pe_glob rfl mN rN) (pa_cons (pe_glob rfl mR rR) pa_nil))))) pss_nil)
      (pss_cons (ps_if (PW.pt (pw_or (pt_cmpR op_eq (pv 0) pe_str (nomark _)) (pw_or1 (pt_cmpR op_eq (pv 0) pe_str (nomark _))))) (pss_one (ps_ret (pe_lst (pa_cons (pe_glob rfl mR rR) (pa_cons (pe_glob rfl mN rN) pa_nil))))) pss_nil)
      (pss_cons (ps_if (pt_cmpR op_eq (pv 0) pe_str (nomark _)) (pss_one (ps_ret (pe_lst pa_nil))) pss_nil)
      (pss_cons (ps_if (pt_cmpR op_eq (pv 0) pe_str (nomark _)) (pss_one (ps_ret (pe_lst (pa_cons (pe_glob rfl mR rR) (pa_cons (pe_op op_add (pe_glob rfl mL rL) pe_int) pa_nil))))) pss_nil)
      (pss_one (ps_ret pe_non))))))), ?_⟩
    refine ⟨_, rfl, rfl, _, rfl, iteD (fun e => ?_) (fun n1 => ?_)⟩
    · cases str_inj e
      exact ⟨by decide, fun p hp => k1 [4, TOPi] (by unfold boundsM; rw [if_pos rfl]) p hp⟩
    refine ⟨_, rfl, rfl, _, rfl, iteD (fun e => ?_) (fun n2 => ?_)⟩
    · cases str_inj e
      exact ⟨by decide, fun p hp => k1 [4, 4] (by unfold boundsM; rw [if_neg (by decide +kernel), if_pos rfl]) p hp⟩
    refine ⟨_, rfl, rfl, _, rfl, iteD (fun e => ?_) (fun n3 => ?_)⟩
    · cases str_inj e
      exact ⟨by decide, fun p hp => k1 [12, 4] (by unfold boundsM; rw [if_neg (by decide +kernel), if_neg (by decide +kernel), if_pos rfl]) p hp⟩
    refine ⟨_, rfl, rfl, _, rfl, iteD (fun e => ?_) (fun n4 => ?_)⟩
    · cases str_inj e
      exact iteT ⟨by decide, fun p hp => k1 [4, 12] (by unfold boundsM; rw [if_neg (by decide +kernel), if_neg (by decide +kernel), if_neg (by decide +kernel), if_pos rfl]) p hp⟩
    refine ⟨_, rfl, rfl, _, rfl, iteD (fun e => ?_) (fun n5 => ?_)⟩
    · cases str_inj e
      exact ⟨by decide, fun p hp => k1 [4, 12] (by unfold boundsM; rw [if_neg (by decide +kernel), if_neg (by decide +kernel), if_neg (by decide +kernel), if_neg (by decide +kernel), if_pos rfl]) p hp⟩
    refine ⟨_, rfl, rfl, _, rfl, iteD (fun e => ?_) (fun n6 => ?_)⟩
    · cases str_inj e
      exact ⟨by decide, fun p hp => k1 [] (by unfold boundsM; rw [if_neg (by decide +kernel), if_neg (by decide +kernel), if_neg (by decide +kernel), if_neg (by decide +kernel), if_neg (by decide +kernel), if_pos rfl]) p hp⟩
    refine ⟨_, rfl, rfl, _, rfl, iteD (fun e => ?_) (fun n7 => ?_)⟩
    · cases str_inj e
      exact ⟨_, _, rfl, rfl, by decide, fun p hp => k1 [4, 121] (by unfold boundsM; rw [if_neg (by decide +kernel), if_neg (by decide +kernel), if_neg (by decide +kernel), if_neg (by decide +kernel), if_neg (by decide +kernel), if_neg (by decide +kernel), if_pos rfl]) p hp⟩
    refine k0 ?_
    have nn : ∀ {y : Str}, ¬ V.str x = V.str y → ¬ x = y := fun h e => h (by rw [e])
    unfold boundsM
    rw [if_neg (nn n1), if_neg (nn n2), if_neg (nn n3), if_neg (nn n4), if_neg (nn n5), if_neg (nn n6), if_neg (nn n7)]

/-! ### is_step -/
def spIsStep : Sp := fun vs H Q _ => ∃ v T, vs = [v] ∧ tyName H v = some T ∧ (∀ xs, viewT H v = some xs → xs.length ≤ 1000 ∧ ∀ x ∈ xs, ∃ T, tyName H x = some T) ∧ ∀ H', Same H H' → Q (.bl (isStep H v)) H'
theorem scIsStep : FnScope ["told", "bounds"] ["told"] (defScope sIsStep) := ⟨rfl, rfl, rfl, by decide +kernel, rfl, by decide +kernel, by decide +kernel⟩
theorem sIx1 (y : V) (ps : List V) : HT.sIx (y :: ps).length 0 (some 1) = 1 := by
  simp only [HT.sIx, List.length_cons]
  first | omega | (simp; done) | (split <;> omega)
theorem cut1 (y : V) (ps : List V) : cutV (y :: ps) (some 1) none = ps := by
  unfold cutV
  rw [sIx1]
  show List.take (HT.sIx (y :: ps).length (y :: ps).length none - 1) ps = ps
  exact List.take_of_length_le (by simp [HT.sIx])
theorem bounds_len {x : Str} {bs : List Int} (h : boundsM x = some bs) : bs.length ≤ 2 := by
  unfold boundsM at h
  repeat (first | (split at h; (cases h; decide)) | (cases h; done))
theorem nd_pb : (["part", "bound"] : List Str).Nodup := by decide +kernel
theorem ok_isStep {f fW fB : Addr} {fd fdW fdB : FuncData} (F : Fun K "is_step" "is_step" sIsStep f fd) (B : Bl mg) (C : Cn mg)
    (FW : Fun K "is_whole" "is_whole" sWhole fW fdW) (bW : Binds K fdW ["thing"] []) (mW : mg "is_whole" = some (.ref fW)) (FB : Fun K "bounds_of" "bounds_of" sBounds fB fdB) (bB : Binds K fdB ["word"] []) (mB : mg "bounds_of" = some (.ref fB)) :
    FnOk P w K mg base CX0 2 f fd ["told"] spIsStep := by
  have GW : FnOk P w K mg base CX0 1 fW fdW ["thing"] spWhole := ok_whole FW B
  have GB : FnOk P w K mg base CX0 1 fB fdB ["word"] spBounds := ok_bounds FB C
  refine F.ok scIsStep (fun vs H Q E h => ?_) (fun cdv A outer s H vs Q E hr h => ?_)
  · obtain ⟨v, T, rfl, _⟩ := h
    rfl
  · obtain ⟨v, T, rfl, ht, hx, k⟩ := h
    refine ⟨_, pss_cons (ps_if (PW.pt (pw_or (pt_not (pt_val (pe_callB call_isi rfl B.isi boot_isinstance (pa_cons (pv 0) (pa_cons (pe_bltn (v := .ty "tuple") rfl B.tuple boot_tuple rfl) pa_nil)))))
        (pw_or (pt_cmpR op_eq (pe_callB call_len_seq rfl B.len PySem.boot_len (pa_cons (pv 0) pa_nil)) pe_int (nomark _))
        (pw_or1 (pt_not (pt_val (pe_callB call_isi rfl B.isi boot_isinstance (pa_cons (pe_ix ix_tup (pv 0) pe_int (fun _ _ => rfl)) (pa_cons (pe_bltn (v := .ty "str") rfl B.str boot_str rfl) pa_nil)))))))))
        (pss_one (ps_ret pe_bl)) pss_nil)
      (pss_cons (ps_set (i := 1) scIsStep.nd rfl (Or.inl rfl) (pe_call GB hr rfl mB FB.kp bB .nil pass0 (pa_cons (pe_ix ix_tup (pv 0) pe_int (fun _ _ => rfl)) pa_nil)))
      (pss_cons (ps_if (PW.pt (pw_or (pt_cmpR op_isN (pv 1) pe_non (nomark _))
        (pw_or1 (pt_cmpR op_ne (pe_callB call_len_seq rfl B.len PySem.boot_len (pa_cons (pv 0) pa_nil)) (pe_op op_add (pe_callB call_len_seq rfl B.len PySem.boot_len (pa_cons (pv 1) pa_nil)) pe_int) (nomark _)))))
        (pss_one (ps_ret pe_bl)) pss_nil)
      (pss_one (ps_ret (pe_callB (call_all rfl) rfl B.all boot_all (pa_cons (pe_comp (N := ["part", "bound"]) (idx := []) rfl (ScC.of (by kernel_rfl)) (gkeep_pair (Nat.zero_le _) (Nat.zero_le _))
        (pi_zip (b1 := false) (b2 := true) rfl B.zip (pa_cons (pe_slice sl_tup (pv 0) (po_some pe_int) po_none) (pa_cons (pv 1) pa_nil)))
        (fun _ _ _ _ => pg_tup rfl (pgs_cons (pg_name (i := 0) nd_pb rfl (Or.inl rfl) (.inr rfl)) (pgs_cons (pg_name (i := 1) nd_pb rfl (Or.inl rfl) (.inr rfl)) pgs_nil)))
        (fun _ _ _ _ => pts_nil)
        (fun _ _ _ _ => pe_and (pe_call GW hr rfl mW FW.kp bW .nil pass0 (pa_cons (pv 0) pa_nil)) (pe_one (pe_chain op_le op_lt pe_int (pv 0) (pv 1))))) pa_nil)))))), ?_⟩
    cases hv : viewT H v with
    | none =>
      have hi : isiB T "tuple" = false := by rw [noView ht, hv]; rfl
      have hst : isStep H v = false := by unfold isStep; rw [hv]
      have kk := k H (Same.refl H)
      rw [hst] at kk
      refine ⟨v, rfl, _, _, _, _, _, rfl, tyT ht, rfl, kitU ht (by decide), _, rfl, ?_⟩
      rw [hi]
      exact iteT (iteT kk)
    | some xs =>
      obtain ⟨a, e0, ha⟩ := viewT_ref hv
      subst e0
      obtain ⟨hl, hty⟩ := hx xs hv
      have hi : isiB T "tuple" = true := by rw [noView ht, hv]; rfl
      have kk : ∀ H', Same H H' → Q (.bl (stepOk xs)) H' := fun H' s => by
        have q := k H' s
        unfold isStep at q
        rw [hv] at q
        exact q
      refine ⟨_, rfl, _, _, _, _, _, rfl, tyT ht, rfl, kitU ht (by decide), _, rfl, ?_⟩
      rw [hi]
      refine iteF ?_
      cases xs with
      | nil =>
        refine ⟨_, rfl, a, [], rfl, .inr (SqT.of ha), rfl, _, rfl, iteD (fun e => ?_) (fun n0 => absurd rfl n0)⟩
        exact iteT (kk H (Same.refl H))
      | cons y ps =>
        refine ⟨_, rfl, a, y :: ps, rfl, .inr (SqT.of ha), rfl, _, rfl, iteD (fun e => ?_) (fun n0 => ?_)⟩
        · injection e with e
          exact absurd e (by simp only [List.length_cons]; omega)
        obtain ⟨Ty, hy⟩ := hty y List.mem_cons_self
        refine ⟨_, rfl, a, y :: ps, 0, y, rfl, rfl, SqT.of ha, atI_nat (j := 0) rfl, _, _, _, _, _, rfl, tyT hy, rfl, kitU hy (by decide), _, rfl, ?_⟩
        refine iteNB (fun h1 => ?_) (fun h1 => ?_)
        · have e : stepOk (y :: ps) = false := by
            cases y with
            | str x => exact absurd ((isiStr hy).mpr ⟨x, rfl⟩) (by rw [h1]; exact Bool.false_ne_true)
            | _ => rfl
          have q := kk H (Same.refl H)
          rw [e] at q
          exact q
        obtain ⟨x0, e0⟩ := (isiStr hy).mp h1
        subst e0
        refine ⟨_, rfl, a, _, 0, .str x0, rfl, rfl, SqT.of ha, atI_nat (j := 0) rfl, x0, rfl, fun hb => ?_, fun bs hb p hp => ?_⟩
        · refine ⟨_, rfl, rfl, _, rfl, iteD (fun _ => ?_) (fun n => absurd rfl n)⟩
          have e : stepOk (.str x0 :: ps) = false := by
            show (match boundsM x0 with | none => false | some bs => decide (ps.length = bs.length) && (ps.zip bs).all fun p => wIn p.1 p.2) = false
            rw [hb]
          have q := kk H (Same.refl H)
          rw [e] at q
          exact iteT q
        have s1 : Same H (upd H p (.lst (bs.map V.int))) := same_new (Same.refl H) hp
        have ha1 := s1 _ _ ha
        have eS : stepOk (.str x0 :: ps) = (decide (ps.length = bs.length) && (ps.zip bs).all fun p => wIn p.1 p.2) := by
          show (match boundsM x0 with | none => false | some bs => decide (ps.length = bs.length) && (ps.zip bs).all fun p => wIn p.1 p.2) = _
          rw [hb]
        rw [eS] at kk
        refine ⟨_, rfl, rfl, _, rfl, iteD (fun z => by cases z) (fun _ => ?_)⟩
        refine ⟨_, rfl, a, _, rfl, .inr (SqT.of ha1), _, rfl, p, _, rfl, .inl (SqL.of upd_same), _, _, rfl, rfl, rfl, _, rfl, iteND (fun ne => ?_) (fun eq => ?_)⟩
        · have e : decide (ps.length = bs.length) = false := decide_eq_false fun z => ne (by rw [List.length_cons, List.length_map, z]; rfl)
          rw [e, Bool.false_and] at kk
          exact kk _ s1
        have hlen : ps.length = bs.length := by
          injection eq with eq
          rw [List.length_cons, List.length_map] at eq
          omega
        rw [decide_eq_true hlen, Bool.true_and] at kk
        refine ⟨_, rfl, 1, rfl, a, _, rfl, SqT.of ha1, ?_, fun q hq => ?_⟩
        · intro z
          have z1 := z.1
          rw [sIx1] at z1
          cases z1
        rw [cut1]
        have s2 : Same H (upd (upd H p (.lst (bs.map V.int))) q (.tup ps)) := same_new s1 hq
        have nqp : p ≠ q := ne_of_none upd_same hq
        have hp2 : upd (upd H p (.lst (bs.map V.int))) q (.tup ps) p = some (.lst (bs.map V.int)) := by rw [upd_ne nqp]; exact upd_same
        refine ⟨_, rfl, q, p, ps, bs.map V.int, rfl, SqT.of upd_same, SqL.of hp2, ?_⟩
        generalize hH3 : upd (upd H p (.lst (bs.map V.int))) q (.tup ps) = H3 at s2 hp2
        have hq3 : H3 q = some (.tup ps) := by rw [← hH3]; exact upd_same
        refine compW_of (n := bs.length) (fun i ys H' => i ≤ bs.length ∧ Same H3 H' ∧ ys = ((ps.zip bs).take i).map fun z => V.bl (wIn z.1 z.2)) ?_ ?_ ?_ ?_ ?_ ?_ ?_
        · have hln := bounds_len hb
          exact Nat.le_of_lt (small1000 (by omega))
        · exact ⟨Nat.zero_le _, Same.refl _, rfl⟩
        · rintro i ys H' ⟨_, _, e⟩
          rw [e, List.length_map, List.length_take]
          omega
        · rintro i ys H' hi ⟨_, s3, _⟩
          exact ⟨ps, bs.map V.int, ps[i]'(by omega), V.int bs[i], SqT.of (s3 _ _ hq3), SqL.of (s3 _ _ hp2), by simp [hlen, hi], by simp [hi]⟩
        · rintro ys H' ⟨_, s3, _⟩
          exact ⟨ps, bs.map V.int, SqT.of (s3 _ _ hq3), SqL.of (s3 _ _ hp2), .inr (by rw [List.length_map]; exact Nat.le_refl _)⟩
        · rintro i ys H' hi ⟨_, s3, e⟩ v H'' ⟨r, x, y, hr0, ev, eH, hxy⟩
          obtain ⟨hx1, hy1⟩ := hxy ps (bs.map V.int) (SqT.of (s3 _ _ hq3)) (SqL.of (s3 _ _ hp2))
          subst ev
          subst eH
          have hb1 : y = V.int bs[i] := by
            rw [List.getElem?_map, List.getElem?_eq_getElem hi] at hy1
            exact (Option.some.inj hy1).symm
          subst hb1
          have s4 : Same H3 (upd H' r (.tup [x, V.int bs[i]])) := same_new s3 hr0
          obtain ⟨Tx, hTx⟩ := hty x (List.mem_cons_of_mem _ (List.mem_of_getElem? hx1))
          have hTx4 := tyName_same (s2.trans s4) hTx
          have zi : (ps.zip bs)[i]? = some (x, bs[i]) := by
            rw [List.getElem?_zip_eq_some]
            exact ⟨hx1, List.getElem?_eq_getElem hi⟩
          have fin : ∀ c, c = wIn x bs[i] → i + 1 ≤ bs.length ∧ Same H3 (upd H' r (.tup [x, V.int bs[i]])) ∧ ys ++ [V.bl c] = ((ps.zip bs).take (i + 1)).map fun z => V.bl (wIn z.1 z.2) := fun c hc => by
            refine ⟨hi, s4, ?_⟩
            rw [List.take_add_one, zi, List.map_append, ← e, hc]
            rfl
          refine ⟨r, [x, V.int bs[i]], rfl, SqT.of upd_same, rfl, x, [V.int bs[i]], rfl, V.int bs[i], [], rfl, rfl, ?_⟩
          dsimp only [tYes]
          rw [if_pos rfl]
          refine ⟨_, rfl, x, Tx, rfl, hTx4, _, rfl, ?_⟩
          cases x with
          | int j =>
            refine iteT ⟨_, rfl, 0, j, rfl, rfl, _, rfl, iteD (fun h0 => ?_) (fun h0 => ?_)⟩
            · refine ⟨_, rfl, j, bs[i], rfl, rfl, ?_⟩
              exact fin _ (by show _ = (decide (0 ≤ j) && decide (j < bs[i])); rw [decide_eq_true h0, Bool.true_and])
            · exact fin _ (by show _ = (decide (0 ≤ j) && decide (j < bs[i])); rw [decide_eq_false h0, Bool.false_and])
          | _ => exact iteF (fin _ rfl)
        · rintro ys H' ⟨_, s3, e⟩
          refine ⟨?_, fun r hr0 => ?_⟩
          · rw [e, List.length_map, List.length_take]
            have hln := bounds_len hb
            have := small1000 (n := bs.length) (by omega)
            omega
          have ey : ys = (((ps.zip bs).map fun z => wIn z.1 z.2)).map V.bl := by
            rw [e, List.take_of_length_le (by rw [List.length_zip]; omega), List.map_map]
            rfl
          refine ⟨r, (ps.zip bs).map fun z => wIn z.1 z.2, rfl, SqL.of (by rw [upd_same, ey]), ?_⟩
          rw [List.all_map]
          exact kk _ (same_new (s2.trans s3) hr0)

/-! ### the steps are made -/
def spInit (K : PySem.W.Frag) : Sp := fun vs H Q _ => ∃ x C dx fs a xs, vs = [.ref x, .ref a] ∧ H x = some (.ins C dx fs) ∧ Cls K C ∧ NoAttr K C "parts" ∧ fs.length < 900 ∧ H a = some (.tup xs) ∧ Q .non (upd H x (.ins C dx (putF "parts" (.ref a) fs)))
theorem scInit : FnScope ["self", "told"] ["self", "told"] (defScope sInit) := ⟨rfl, rfl, rfl, by decide +kernel, rfl, by decide +kernel, by decide +kernel⟩
theorem ok_init {f : Addr} {fd : FuncData} (F : Fun K "__init__" "Step.__init__" sInit f fd) (B : mg "tuple" = none) : FnOk P w K mg base CX0 1 f fd ["self", "told"] (spInit K) := by
  refine F.ok scInit (fun vs H Q E h => ?_) (fun cdv A outer s H vs Q E hr h => ?_)
  · obtain ⟨x, C, dx, fs, a, xs, rfl, _⟩ := h
    rfl
  · obtain ⟨x, C, dx, fs, a, xs, rfl, hx, cl, nP, hl, ha, k⟩ := h
    refine ⟨_, pss_one (ps_fld (pv 0) (pe_callTy call_tuple_of rfl B boot_tuple (pa_cons (pv 1) pa_nil)) rfl), ?_⟩
    exact ⟨_, rfl, a, xs, rfl, .inr ⟨SqT.of ha, _, rfl, x, C, dx, fs, rfl, hx, cl, nP, by omega, k⟩⟩
theorem len2 (f : Str) (u : V) : (putF f u []).length < 1000 := by
  have h1 := length_putF f u []
  have h3 : ([] : List (Str × V)).length = 0 := rfl
  omega
theorem len3 (f g : Str) (u v : V) : (putF f u (putF g v [])).length < 1000 := by
  have h1 := length_putF f u (putF g v [])
  have h2 := length_putF g v []
  have h3 : ([] : List (Str × V)).length = 0 := rfl
  omega
/-- Step's own __init__, as the others call it -/
structure InitT (K : PySem.W.Frag) (mg : Str → Option Value) (cS fI : Addr) (fdI : FuncData) : Prop where
  fn : Fun K "__init__" "Step.__init__" sInit fI fdI
  bi : Binds K fdI ["self", "told"] []
  cf : ClsFn K cS "__init__" fI
  at_ : mg "Step" = some (.ref cS)
  tup : mg "tuple" = none
def spI (C : Addr) (f1 f2 : Str) : Sp := fun vs H Q _ => ∃ x dx a xs v1 v2, vs = [.ref x, .ref a] ∧ H x = some (.ins C dx []) ∧ H a = some (.tup xs) ∧ xs[1]? = some v1 ∧ xs[2]? = some v2 ∧
  Q .non (upd H x (.ins C dx (putF f2 v2 (putF f1 v1 (putF "parts" (.ref a) [])))))

theorem scPutI : FnScope ["self", "told"] ["self", "told"] (defScope sPutI) := ⟨rfl, rfl, rfl, by decide +kernel, rfl, by decide +kernel, by decide +kernel⟩
theorem ok_PutI {f fI cS C : Addr} {fd fdI : FuncData} (F : Fun K "__init__" "Put.__init__" sPutI f fd) (I : InitT K mg cS fI fdI) (cl : Cls K C) (nP : NoAttr K C "parts") (n1 : NoAttr K C "reg") (n2 : NoAttr K C "number") :
    FnOk P w K mg base CX0 2 f fd ["self", "told"] (spI C "reg" "number") := by
  have GI : FnOk P w K mg base CX0 1 fI fdI ["self", "told"] (spInit K) := ok_init I.fn I.tup
  refine F.ok scPutI (fun vs H Q E h => ?_) (fun cdv A outer s H vs Q E hr h => ?_)
  · obtain ⟨x, dx, a, xs, v1, v2, rfl, _⟩ := h
    rfl
  · obtain ⟨x, dx, a, xs, v1, v2, rfl, hx, ha, e1, e2, k⟩ := h
    refine ⟨_, pss_cons (ps_expr (pe_clsCall I.cf GI hr rfl I.at_ I.bi .nil pass0 (pa_cons (pv 0) (pa_cons (pv 1) pa_nil))))
      (pss_cons (ps_fld (pv 0) (pe_ix ix_tup (pv 1) pe_int (fun _ _ => rfl)) rfl)
      (pss_one (ps_fld (pv 0) (pe_ix ix_tup (pv 1) pe_int (fun _ _ => rfl)) rfl))), ?_⟩
    have nxa : a ≠ x := ne_of ha hx (by intro z; cases z)
    refine ⟨_, rfl, _, rfl, x, C, dx, [], a, xs, rfl, hx, cl, nP, by decide, ha, ?_⟩
    refine ⟨_, rfl, a, xs, 1, v1, rfl, rfl, SqT.of (by rw [upd_ne nxa]; exact ha), atI_nat (j := 1) e1, _, rfl, x, C, dx, _, rfl, upd_same, cl, n1, len2 _ _, ?_⟩
    refine ⟨_, rfl, a, xs, 2, v2, rfl, rfl, SqT.of (by rw [upd_ne nxa, upd_ne nxa]; exact ha), atI_nat (j := 2) e2, _, rfl, x, C, dx, _, rfl, upd_same, cl, n2, len3 _ _ _ _, ?_⟩
    rw [upd_upd, upd_upd]
    exact k

theorem scAddI : FnScope ["self", "told"] ["self", "told"] (defScope sAddI) := ⟨rfl, rfl, rfl, by decide +kernel, rfl, by decide +kernel, by decide +kernel⟩
theorem ok_AddI {f fI cS C : Addr} {fd fdI : FuncData} (F : Fun K "__init__" "Add.__init__" sAddI f fd) (I : InitT K mg cS fI fdI) (cl : Cls K C) (nP : NoAttr K C "parts") (n1 : NoAttr K C "reg") (n2 : NoAttr K C "other") :
    FnOk P w K mg base CX0 2 f fd ["self", "told"] (spI C "reg" "other") := by
  have GI : FnOk P w K mg base CX0 1 fI fdI ["self", "told"] (spInit K) := ok_init I.fn I.tup
  refine F.ok scAddI (fun vs H Q E h => ?_) (fun cdv A outer s H vs Q E hr h => ?_)
  · obtain ⟨x, dx, a, xs, v1, v2, rfl, _⟩ := h
    rfl
  · obtain ⟨x, dx, a, xs, v1, v2, rfl, hx, ha, e1, e2, k⟩ := h
    refine ⟨_, pss_cons (ps_expr (pe_clsCall I.cf GI hr rfl I.at_ I.bi .nil pass0 (pa_cons (pv 0) (pa_cons (pv 1) pa_nil))))
      (pss_cons (ps_fld (pv 0) (pe_ix ix_tup (pv 1) pe_int (fun _ _ => rfl)) rfl)
      (pss_one (ps_fld (pv 0) (pe_ix ix_tup (pv 1) pe_int (fun _ _ => rfl)) rfl))), ?_⟩
    have nxa : a ≠ x := ne_of ha hx (by intro z; cases z)
    refine ⟨_, rfl, _, rfl, x, C, dx, [], a, xs, rfl, hx, cl, nP, by decide, ha, ?_⟩
    refine ⟨_, rfl, a, xs, 1, v1, rfl, rfl, SqT.of (by rw [upd_ne nxa]; exact ha), atI_nat (j := 1) e1, _, rfl, x, C, dx, _, rfl, upd_same, cl, n1, len2 _ _, ?_⟩
    refine ⟨_, rfl, a, xs, 2, v2, rfl, rfl, SqT.of (by rw [upd_ne nxa, upd_ne nxa]; exact ha), atI_nat (j := 2) e2, _, rfl, x, C, dx, _, rfl, upd_same, cl, n2, len3 _ _ _ _, ?_⟩
    rw [upd_upd, upd_upd]
    exact k

theorem scSetI : FnScope ["self", "told"] ["self", "told"] (defScope sSetI) := ⟨rfl, rfl, rfl, by decide +kernel, rfl, by decide +kernel, by decide +kernel⟩
theorem ok_SetI {f fI cS C : Addr} {fd fdI : FuncData} (F : Fun K "__init__" "Set.__init__" sSetI f fd) (I : InitT K mg cS fI fdI) (cl : Cls K C) (nP : NoAttr K C "parts") (n1 : NoAttr K C "name") (n2 : NoAttr K C "reg") :
    FnOk P w K mg base CX0 2 f fd ["self", "told"] (spI C "name" "reg") := by
  have GI : FnOk P w K mg base CX0 1 fI fdI ["self", "told"] (spInit K) := ok_init I.fn I.tup
  refine F.ok scSetI (fun vs H Q E h => ?_) (fun cdv A outer s H vs Q E hr h => ?_)
  · obtain ⟨x, dx, a, xs, v1, v2, rfl, _⟩ := h
    rfl
  · obtain ⟨x, dx, a, xs, v1, v2, rfl, hx, ha, e1, e2, k⟩ := h
    refine ⟨_, pss_cons (ps_expr (pe_clsCall I.cf GI hr rfl I.at_ I.bi .nil pass0 (pa_cons (pv 0) (pa_cons (pv 1) pa_nil))))
      (pss_cons (ps_fld (pv 0) (pe_ix ix_tup (pv 1) pe_int (fun _ _ => rfl)) rfl)
      (pss_one (ps_fld (pv 0) (pe_ix ix_tup (pv 1) pe_int (fun _ _ => rfl)) rfl))), ?_⟩
    have nxa : a ≠ x := ne_of ha hx (by intro z; cases z)
    refine ⟨_, rfl, _, rfl, x, C, dx, [], a, xs, rfl, hx, cl, nP, by decide, ha, ?_⟩
    refine ⟨_, rfl, a, xs, 1, v1, rfl, rfl, SqT.of (by rw [upd_ne nxa]; exact ha), atI_nat (j := 1) e1, _, rfl, x, C, dx, _, rfl, upd_same, cl, n1, len2 _ _, ?_⟩
    refine ⟨_, rfl, a, xs, 2, v2, rfl, rfl, SqT.of (by rw [upd_ne nxa, upd_ne nxa]; exact ha), atI_nat (j := 2) e2, _, rfl, x, C, dx, _, rfl, upd_same, cl, n2, len3 _ _ _ _, ?_⟩
    rw [upd_upd, upd_upd]
    exact k

theorem scLookI : FnScope ["self", "told"] ["self", "told"] (defScope sLookI) := ⟨rfl, rfl, rfl, by decide +kernel, rfl, by decide +kernel, by decide +kernel⟩
theorem ok_LookI {f fI cS C : Addr} {fd fdI : FuncData} (F : Fun K "__init__" "Look.__init__" sLookI f fd) (I : InitT K mg cS fI fdI) (cl : Cls K C) (nP : NoAttr K C "parts") (n1 : NoAttr K C "reg") (n2 : NoAttr K C "name") :
    FnOk P w K mg base CX0 2 f fd ["self", "told"] (spI C "reg" "name") := by
  have GI : FnOk P w K mg base CX0 1 fI fdI ["self", "told"] (spInit K) := ok_init I.fn I.tup
  refine F.ok scLookI (fun vs H Q E h => ?_) (fun cdv A outer s H vs Q E hr h => ?_)
  · obtain ⟨x, dx, a, xs, v1, v2, rfl, _⟩ := h
    rfl
  · obtain ⟨x, dx, a, xs, v1, v2, rfl, hx, ha, e1, e2, k⟩ := h
    refine ⟨_, pss_cons (ps_expr (pe_clsCall I.cf GI hr rfl I.at_ I.bi .nil pass0 (pa_cons (pv 0) (pa_cons (pv 1) pa_nil))))
      (pss_cons (ps_fld (pv 0) (pe_ix ix_tup (pv 1) pe_int (fun _ _ => rfl)) rfl)
      (pss_one (ps_fld (pv 0) (pe_ix ix_tup (pv 1) pe_int (fun _ _ => rfl)) rfl))), ?_⟩
    have nxa : a ≠ x := ne_of ha hx (by intro z; cases z)
    refine ⟨_, rfl, _, rfl, x, C, dx, [], a, xs, rfl, hx, cl, nP, by decide, ha, ?_⟩
    refine ⟨_, rfl, a, xs, 1, v1, rfl, rfl, SqT.of (by rw [upd_ne nxa]; exact ha), atI_nat (j := 1) e1, _, rfl, x, C, dx, _, rfl, upd_same, cl, n1, len2 _ _, ?_⟩
    refine ⟨_, rfl, a, xs, 2, v2, rfl, rfl, SqT.of (by rw [upd_ne nxa, upd_ne nxa]; exact ha), atI_nat (j := 2) e2, _, rfl, x, C, dx, _, rfl, upd_same, cl, n2, len3 _ _ _ _, ?_⟩
    rw [upd_upd, upd_upd]
    exact k

theorem scSwapI : FnScope ["self", "told"] ["self", "told"] (defScope sSwapI) := ⟨rfl, rfl, rfl, by decide +kernel, rfl, by decide +kernel, by decide +kernel⟩
theorem ok_SwapI {f fI cS C : Addr} {fd fdI : FuncData} (F : Fun K "__init__" "Swap.__init__" sSwapI f fd) (I : InitT K mg cS fI fdI) (cl : Cls K C) (nP : NoAttr K C "parts") (n1 : NoAttr K C "reg") (n2 : NoAttr K C "name") :
    FnOk P w K mg base CX0 2 f fd ["self", "told"] (spI C "reg" "name") := by
  have GI : FnOk P w K mg base CX0 1 fI fdI ["self", "told"] (spInit K) := ok_init I.fn I.tup
  refine F.ok scSwapI (fun vs H Q E h => ?_) (fun cdv A outer s H vs Q E hr h => ?_)
  · obtain ⟨x, dx, a, xs, v1, v2, rfl, _⟩ := h
    rfl
  · obtain ⟨x, dx, a, xs, v1, v2, rfl, hx, ha, e1, e2, k⟩ := h
    refine ⟨_, pss_cons (ps_expr (pe_clsCall I.cf GI hr rfl I.at_ I.bi .nil pass0 (pa_cons (pv 0) (pa_cons (pv 1) pa_nil))))
      (pss_cons (ps_fld (pv 0) (pe_ix ix_tup (pv 1) pe_int (fun _ _ => rfl)) rfl)
      (pss_one (ps_fld (pv 0) (pe_ix ix_tup (pv 1) pe_int (fun _ _ => rfl)) rfl))), ?_⟩
    have nxa : a ≠ x := ne_of ha hx (by intro z; cases z)
    refine ⟨_, rfl, _, rfl, x, C, dx, [], a, xs, rfl, hx, cl, nP, by decide, ha, ?_⟩
    refine ⟨_, rfl, a, xs, 1, v1, rfl, rfl, SqT.of (by rw [upd_ne nxa]; exact ha), atI_nat (j := 1) e1, _, rfl, x, C, dx, _, rfl, upd_same, cl, n1, len2 _ _, ?_⟩
    refine ⟨_, rfl, a, xs, 2, v2, rfl, rfl, SqT.of (by rw [upd_ne nxa, upd_ne nxa]; exact ha), atI_nat (j := 2) e2, _, rfl, x, C, dx, _, rfl, upd_same, cl, n2, len3 _ _ _ _, ?_⟩
    rw [upd_upd, upd_upd]
    exact k

theorem scSkipI : FnScope ["self", "told"] ["self", "told"] (defScope sSkipI) := ⟨rfl, rfl, rfl, by decide +kernel, rfl, by decide +kernel, by decide +kernel⟩
theorem ok_SkipI {f fI cS C : Addr} {fd fdI : FuncData} (F : Fun K "__init__" "Skip.__init__" sSkipI f fd) (I : InitT K mg cS fI fdI) (cl : Cls K C) (nP : NoAttr K C "parts") (n1 : NoAttr K C "reg") (n2 : NoAttr K C "place") :
    FnOk P w K mg base CX0 2 f fd ["self", "told"] (spI C "reg" "place") := by
  have GI : FnOk P w K mg base CX0 1 fI fdI ["self", "told"] (spInit K) := ok_init I.fn I.tup
  refine F.ok scSkipI (fun vs H Q E h => ?_) (fun cdv A outer s H vs Q E hr h => ?_)
  · obtain ⟨x, dx, a, xs, v1, v2, rfl, _⟩ := h
    rfl
  · obtain ⟨x, dx, a, xs, v1, v2, rfl, hx, ha, e1, e2, k⟩ := h
    refine ⟨_, pss_cons (ps_expr (pe_clsCall I.cf GI hr rfl I.at_ I.bi .nil pass0 (pa_cons (pv 0) (pa_cons (pv 1) pa_nil))))
      (pss_cons (ps_fld (pv 0) (pe_ix ix_tup (pv 1) pe_int (fun _ _ => rfl)) rfl)
      (pss_one (ps_fld (pv 0) (pe_ix ix_tup (pv 1) pe_int (fun _ _ => rfl)) rfl))), ?_⟩
    have nxa : a ≠ x := ne_of ha hx (by intro z; cases z)
    refine ⟨_, rfl, _, rfl, x, C, dx, [], a, xs, rfl, hx, cl, nP, by decide, ha, ?_⟩
    refine ⟨_, rfl, a, xs, 1, v1, rfl, rfl, SqT.of (by rw [upd_ne nxa]; exact ha), atI_nat (j := 1) e1, _, rfl, x, C, dx, _, rfl, upd_same, cl, n1, len2 _ _, ?_⟩
    refine ⟨_, rfl, a, xs, 2, v2, rfl, rfl, SqT.of (by rw [upd_ne nxa, upd_ne nxa]; exact ha), atI_nat (j := 2) e2, _, rfl, x, C, dx, _, rfl, upd_same, cl, n2, len3 _ _ _ _, ?_⟩
    rw [upd_upd, upd_upd]
    exact k

structure Adr where
  (fW fB fS fO fI fPut fAdd fSet fLook fSwap fSkip cStep cPut cAdd cSet cLook cSwap cClear cSkip : Addr)
  (fdW fdB fdS fdO fdI fdPut fdAdd fdSet fdLook fdSwap fdSkip : FuncData)
structure StepsT (K : PySem.W.Frag) (mg : Str → Option Value) (t : Adr) : Prop where
  bl : Bl mg
  cn : Cn mg
  fnW : Fun K "is_whole" "is_whole" sWhole t.fW t.fdW
  bW : Binds K t.fdW ["thing"] []
  mW : mg "is_whole" = some (.ref t.fW)
  fnB : Fun K "bounds_of" "bounds_of" sBounds t.fB t.fdB
  bB : Binds K t.fdB ["word"] []
  mB : mg "bounds_of" = some (.ref t.fB)
  fnS : Fun K "is_step" "is_step" sIsStep t.fS t.fdS
  bS : Binds K t.fdS ["told"] []
  mS : mg "is_step" = some (.ref t.fS)
  fnO : Fun K "step_of" "step_of" sStepOf t.fO t.fdO
  bO : Binds K t.fdO ["told"] []
  mO : mg "step_of" = some (.ref t.fO)
  init : InitT K mg t.cStep t.fI t.fdI
  clClear : Cls K t.cClear
  nPClear : NoAttr K t.cClear "parts"
  mkClear : Mk K t.cClear t.fI
  mgClear : mg "Clear" = some (.ref t.cClear)
  clPut : Cls K t.cPut
  nPPut : NoAttr K t.cPut "parts"
  n1Put : NoAttr K t.cPut "reg"
  n2Put : NoAttr K t.cPut "number"
  mkPut : Mk K t.cPut t.fPut
  mgPut : mg "Put" = some (.ref t.cPut)
  fnPut : Fun K "__init__" "Put.__init__" sPutI t.fPut t.fdPut
  biPut : Binds K t.fdPut ["self", "told"] []
  clAdd : Cls K t.cAdd
  nPAdd : NoAttr K t.cAdd "parts"
  n1Add : NoAttr K t.cAdd "reg"
  n2Add : NoAttr K t.cAdd "other"
  mkAdd : Mk K t.cAdd t.fAdd
  mgAdd : mg "Add" = some (.ref t.cAdd)
  fnAdd : Fun K "__init__" "Add.__init__" sAddI t.fAdd t.fdAdd
  biAdd : Binds K t.fdAdd ["self", "told"] []
  clSet : Cls K t.cSet
  nPSet : NoAttr K t.cSet "parts"
  n1Set : NoAttr K t.cSet "name"
  n2Set : NoAttr K t.cSet "reg"
  mkSet : Mk K t.cSet t.fSet
  mgSet : mg "Set" = some (.ref t.cSet)
  fnSet : Fun K "__init__" "Set.__init__" sSetI t.fSet t.fdSet
  biSet : Binds K t.fdSet ["self", "told"] []
  clLook : Cls K t.cLook
  nPLook : NoAttr K t.cLook "parts"
  n1Look : NoAttr K t.cLook "reg"
  n2Look : NoAttr K t.cLook "name"
  mkLook : Mk K t.cLook t.fLook
  mgLook : mg "Look" = some (.ref t.cLook)
  fnLook : Fun K "__init__" "Look.__init__" sLookI t.fLook t.fdLook
  biLook : Binds K t.fdLook ["self", "told"] []
  clSwap : Cls K t.cSwap
  nPSwap : NoAttr K t.cSwap "parts"
  n1Swap : NoAttr K t.cSwap "reg"
  n2Swap : NoAttr K t.cSwap "name"
  mkSwap : Mk K t.cSwap t.fSwap
  mgSwap : mg "Swap" = some (.ref t.cSwap)
  fnSwap : Fun K "__init__" "Swap.__init__" sSwapI t.fSwap t.fdSwap
  biSwap : Binds K t.fdSwap ["self", "told"] []
  clSkip : Cls K t.cSkip
  nPSkip : NoAttr K t.cSkip "parts"
  n1Skip : NoAttr K t.cSkip "reg"
  n2Skip : NoAttr K t.cSkip "place"
  mkSkip : Mk K t.cSkip t.fSkip
  mgSkip : mg "Skip" = some (.ref t.cSkip)
  fnSkip : Fun K "__init__" "Skip.__init__" sSkipI t.fSkip t.fdSkip
  biSkip : Binds K t.fdSkip ["self", "told"] []

def clsW (t : Adr) (x : Str) : Addr := if x = "put" then t.cPut else if x = "add" then t.cAdd else if x = "set" then t.cSet else if x = "look" then t.cLook else if x = "swap" then t.cSwap else if x = "clear" then t.cClear else t.cSkip
def fldsW (v : V) (x : Str) (ps : List V) : List (Str × V) :=
  if x = "put" then putF "number" (ps.getD 1 .non) (putF "reg" (ps.getD 0 .non) (putF "parts" v []))
  else if x = "add" then putF "other" (ps.getD 1 .non) (putF "reg" (ps.getD 0 .non) (putF "parts" v []))
  else if x = "set" then putF "reg" (ps.getD 1 .non) (putF "name" (ps.getD 0 .non) (putF "parts" v []))
  else if x = "look" then putF "name" (ps.getD 1 .non) (putF "reg" (ps.getD 0 .non) (putF "parts" v []))
  else if x = "swap" then putF "name" (ps.getD 1 .non) (putF "reg" (ps.getD 0 .non) (putF "parts" v []))
  else if x = "clear" then putF "parts" v []
  else putF "place" (ps.getD 1 .non) (putF "reg" (ps.getD 0 .non) (putF "parts" v []))
theorem len_two {α : Type} {l : List α} (h : l.length = 2) : ∃ a b, l = [a, b] := by
  cases l with
  | nil => cases h
  | cons a t =>
    obtain ⟨b, e⟩ := List.length_eq_one_iff.mp (show t.length = 1 from Nat.succ.inj h)
    exact ⟨a, b, by rw [e]⟩
theorem two_of {x : Str} {ps : List V} (h : stepOk (.str x :: ps) = true) {b c : Int} {bs : List Int} (hb : boundsM x = some bs) (hl : bs = [b, c] := by rfl) : ∃ v1 v2, ps = [v1, v2] := by
  subst hl
  have h' : (match boundsM x with | none => false | some bs => decide (ps.length = bs.length) && (ps.zip bs).all fun p => wIn p.1 p.2) = true := h
  rw [hb] at h'
  simp only [Bool.and_eq_true, decide_eq_true_eq] at h'
  exact len_two h'.1
theorem last_word {x : Str} {ps : List V} (h : stepOk (.str x :: ps) = true) (n1 : ¬ x = "put") (n2 : ¬ x = "add") (n3 : ¬ x = "set") (n4 : ¬ x = "look") (n5 : ¬ x = "swap") (n6 : ¬ x = "clear") : x = "skip" := by
  apply Classical.byContradiction
  intro n7
  have e : boundsM x = none := by
    unfold boundsM
    rw [if_neg n1, if_neg n2, if_neg n3, if_neg n4, if_neg n5, if_neg n6, if_neg n7]
  have h' : (match boundsM x with | none => false | some bs => decide (ps.length = bs.length) && (ps.zip bs).all fun p => wIn p.1 p.2) = true := h
  rw [e] at h'
  cases h'
theorem scStepOf : FnScope ["told", "word"] ["told"] (defScope sStepOf) := ⟨rfl, rfl, rfl, by decide +kernel, rfl, by decide +kernel, by decide +kernel⟩
end
end TL


namespace TL
open PySem PySem.Spec PyProof.Rows PySem.SeqAt L2 L3
section
variable {P : Program} {w : World} {K : PySem.W.Frag} {mg : Str → Option Value} {base : Heap}
theorem step_view {H : Hp} {v : V} (h : isStep H v = true) : ∃ a x ps, v = .ref a ∧ H a = some (.tup (.str x :: ps)) ∧ stepOk (.str x :: ps) = true := by
  unfold isStep at h
  cases e : viewT H v with
  | none => rw [e] at h; cases h
  | some xs =>
    rw [e] at h
    obtain ⟨a, rfl, ha⟩ := viewT_ref e
    match xs, h, ha with
    | .str x :: ps, h, ha => exact ⟨a, x, ps, rfl, ha, h⟩
/-- step_of: a step, or NoStep -/
def spStepX (t : Adr) (cN : Addr) : Sp := fun vs H Q E => ∃ v T, vs = [v] ∧ tyName H v = some T ∧ (∀ xs, viewT H v = some xs → xs.length ≤ 1000 ∧ ∀ x ∈ xs, ∃ T, tyName H x = some T) ∧
  (∀ a x ps, v = .ref a → H a = some (.tup (.str x :: ps)) → stepOk (.str x :: ps) = true → ∀ z dx H', Same H H' → H z = none → H' z = some (.ins (clsW t x) dx (fldsW (.ref a) x ps)) → Q (.ref z) H') ∧
  (isStep H v = false → ∀ H', Same H H' → E (.ref cN) none H')
theorem ok_stepX {t : Adr} {cN : Addr} (T : StepsT K mg t) (xc : XC K cN) (mX : mg "NoStep" = some (.ref cN)) : FnOk P w K mg base (CXE P w) 4 t.fO t.fdO ["told"] (spStepX t cN) := by
  have GS : FnOk P w K mg base CX0 2 t.fS t.fdS ["told"] spIsStep := ok_isStep T.fnS T.bl T.cn T.fnW T.bW T.mW T.fnB T.bB T.mB
  have GI : FnOk P w K mg base CX0 1 t.fI t.fdI ["self", "told"] (spInit K) := ok_init T.init.fn T.init.tup
  have GPut : FnOk P w K mg base CX0 2 t.fPut t.fdPut ["self", "told"] (spI t.cPut "reg" "number") := ok_PutI T.fnPut T.init T.clPut T.nPPut T.n1Put T.n2Put
  have GAdd : FnOk P w K mg base CX0 2 t.fAdd t.fdAdd ["self", "told"] (spI t.cAdd "reg" "other") := ok_AddI T.fnAdd T.init T.clAdd T.nPAdd T.n1Add T.n2Add
  have GSet : FnOk P w K mg base CX0 2 t.fSet t.fdSet ["self", "told"] (spI t.cSet "name" "reg") := ok_SetI T.fnSet T.init T.clSet T.nPSet T.n1Set T.n2Set
  have GLook : FnOk P w K mg base CX0 2 t.fLook t.fdLook ["self", "told"] (spI t.cLook "reg" "name") := ok_LookI T.fnLook T.init T.clLook T.nPLook T.n1Look T.n2Look
  have GSwap : FnOk P w K mg base CX0 2 t.fSwap t.fdSwap ["self", "told"] (spI t.cSwap "reg" "name") := ok_SwapI T.fnSwap T.init T.clSwap T.nPSwap T.n1Swap T.n2Swap
  have GSkip : FnOk P w K mg base CX0 2 t.fSkip t.fdSkip ["self", "told"] (spI t.cSkip "reg" "place") := ok_SkipI T.fnSkip T.init T.clSkip T.nPSkip T.n1Skip T.n2Skip
  refine T.fnO.okX scStepOf (fun vs H Q E h => ?_) (fun cdv A outer s H vs Q E hr hL hp h => ?_)
  · obtain ⟨v, T, rfl, _⟩ := h
    rfl
  · obtain ⟨v0, Ty, rfl, hTy, hvw, k', kx⟩ := h
    refine ⟨_, (pss_cons (ps_if (pt_not (pt_val (pe_call GS (hr.mono (by decide)) rfl T.mS T.fnS.kp T.bS .nil pass0 (pa_cons (pv 0) pa_nil)))) (pss_one (ps_raise rfl hL xc rfl mX (pa_cons pe_str pa_nil))) pss_nil)
      (pss_cons (ps_set (i := 1) scStepOf.nd rfl (Or.inl rfl) (pe_ix ix_tup (pv 0) pe_int (fun _ _ => rfl)))
      (pss_cons (ps_if (pt_cmpR op_eq (pv 1) pe_str (nomark _)) (pss_one (ps_ret (pe_make T.mkPut GPut hr rfl T.mgPut T.biPut .nil pass0 (pa_cons (pv 0) pa_nil)))) pss_nil)
      (pss_cons (ps_if (pt_cmpR op_eq (pv 1) pe_str (nomark _)) (pss_one (ps_ret (pe_make T.mkAdd GAdd hr rfl T.mgAdd T.biAdd .nil pass0 (pa_cons (pv 0) pa_nil)))) pss_nil)
      (pss_cons (ps_if (pt_cmpR op_eq (pv 1) pe_str (nomark _)) (pss_one (ps_ret (pe_make T.mkSet GSet hr rfl T.mgSet T.biSet .nil pass0 (pa_cons (pv 0) pa_nil)))) pss_nil)
      (pss_cons (ps_if (pt_cmpR op_eq (pv 1) pe_str (nomark _)) (pss_one (ps_ret (pe_make T.mkLook GLook hr rfl T.mgLook T.biLook .nil pass0 (pa_cons (pv 0) pa_nil)))) pss_nil)
      (pss_cons (ps_if (pt_cmpR op_eq (pv 1) pe_str (nomark _)) (pss_one (ps_ret (pe_make T.mkSwap GSwap hr rfl T.mgSwap T.biSwap .nil pass0 (pa_cons (pv 0) pa_nil)))) pss_nil)
      (pss_cons (ps_if (pt_cmpR op_eq (pv 1) pe_str (nomark _)) (pss_one (ps_ret (pe_make T.mkClear GI (hr.mono (by decide)) rfl T.mgClear T.init.bi .nil pass0 (pa_cons (pv 0) pa_nil)))) pss_nil)
      (pss_one (ps_ret (pe_make T.mkSkip GSkip hr rfl T.mgSkip T.biSkip .nil pass0 (pa_cons (pv 0) pa_nil)))))))))))), ?_⟩
    refine ⟨_, rfl, v0, Ty, rfl, hTy, hvw, fun H1 hS => ?_⟩
    refine ⟨_, rfl, ?_⟩
    cases hst : isStep H v0 with
    | false => exact iteT ⟨by show 1 ≤ sizeLine; decide, kx hst H1 hS⟩
    | true =>
    refine iteF ?_
    obtain ⟨a, x0, ps, rfl, ha, hk⟩ := step_view hst
    have k := k' a x0 ps rfl ha hk
    have nn : ∀ {y : Str}, ¬ V.str x0 = V.str y → ¬ x0 = y := fun h e => h (by rw [e])
    refine ⟨_, rfl, a, _, 0, .str x0, rfl, rfl, SqT.of (hS _ _ ha), atI_nat (j := 0) rfl, ?_⟩
    refine ⟨_, rfl, rfl, _, rfl, iteD (fun e => ?_) (fun n1 => ?_)⟩
    · cases str_inj e
      obtain ⟨v1, v2, hps⟩ := two_of hk (bs := [4, TOPi]) (by unfold boundsM; rw [if_pos rfl])
      subst hps
      refine ⟨_, rfl, fun x dx nx ndx nex => ⟨x, dx, a, [.str "put", v1, v2], v1, v2, rfl, upd_same, ?_, rfl, rfl, rfl, ?_⟩⟩
      · rw [upd_ne (ne_of_none (hS _ _ ha) nx), upd_ne (ne_of_none (hS _ _ ha) ndx)]; exact hS _ _ ha
      · refine k x dx _ (fun b o q => ?_) (hS.free nx) (by rw [upd_same]; rfl)
        rw [upd_ne (ne_of_none (hS b o q) nx), upd_ne (ne_of_none (hS b o q) nx), upd_ne (ne_of_none (hS b o q) ndx)]; exact hS b o q
    refine ⟨_, rfl, rfl, _, rfl, iteD (fun e => ?_) (fun n2 => ?_)⟩
    · cases str_inj e
      obtain ⟨v1, v2, hps⟩ := two_of hk (bs := [4, 4]) (by unfold boundsM; rw [if_neg (by decide +kernel), if_pos rfl])
      subst hps
      refine ⟨_, rfl, fun x dx nx ndx nex => ⟨x, dx, a, [.str "add", v1, v2], v1, v2, rfl, upd_same, ?_, rfl, rfl, rfl, ?_⟩⟩
      · rw [upd_ne (ne_of_none (hS _ _ ha) nx), upd_ne (ne_of_none (hS _ _ ha) ndx)]; exact hS _ _ ha
      · refine k x dx _ (fun b o q => ?_) (hS.free nx) (by rw [upd_same]; rfl)
        rw [upd_ne (ne_of_none (hS b o q) nx), upd_ne (ne_of_none (hS b o q) nx), upd_ne (ne_of_none (hS b o q) ndx)]; exact hS b o q
    refine ⟨_, rfl, rfl, _, rfl, iteD (fun e => ?_) (fun n3 => ?_)⟩
    · cases str_inj e
      obtain ⟨v1, v2, hps⟩ := two_of hk (bs := [12, 4]) (by unfold boundsM; rw [if_neg (by decide +kernel), if_neg (by decide +kernel), if_pos rfl])
      subst hps
      refine ⟨_, rfl, fun x dx nx ndx nex => ⟨x, dx, a, [.str "set", v1, v2], v1, v2, rfl, upd_same, ?_, rfl, rfl, rfl, ?_⟩⟩
      · rw [upd_ne (ne_of_none (hS _ _ ha) nx), upd_ne (ne_of_none (hS _ _ ha) ndx)]; exact hS _ _ ha
      · refine k x dx _ (fun b o q => ?_) (hS.free nx) (by rw [upd_same]; rfl)
        rw [upd_ne (ne_of_none (hS b o q) nx), upd_ne (ne_of_none (hS b o q) nx), upd_ne (ne_of_none (hS b o q) ndx)]; exact hS b o q
    refine ⟨_, rfl, rfl, _, rfl, iteD (fun e => ?_) (fun n4 => ?_)⟩
    · cases str_inj e
      obtain ⟨v1, v2, hps⟩ := two_of hk (bs := [4, 12]) (by unfold boundsM; rw [if_neg (by decide +kernel), if_neg (by decide +kernel), if_neg (by decide +kernel), if_pos rfl])
      subst hps
      refine ⟨_, rfl, fun x dx nx ndx nex => ⟨x, dx, a, [.str "look", v1, v2], v1, v2, rfl, upd_same, ?_, rfl, rfl, rfl, ?_⟩⟩
      · rw [upd_ne (ne_of_none (hS _ _ ha) nx), upd_ne (ne_of_none (hS _ _ ha) ndx)]; exact hS _ _ ha
      · refine k x dx _ (fun b o q => ?_) (hS.free nx) (by rw [upd_same]; rfl)
        rw [upd_ne (ne_of_none (hS b o q) nx), upd_ne (ne_of_none (hS b o q) nx), upd_ne (ne_of_none (hS b o q) ndx)]; exact hS b o q
    refine ⟨_, rfl, rfl, _, rfl, iteD (fun e => ?_) (fun n5 => ?_)⟩
    · cases str_inj e
      obtain ⟨v1, v2, hps⟩ := two_of hk (bs := [4, 12]) (by unfold boundsM; rw [if_neg (by decide +kernel), if_neg (by decide +kernel), if_neg (by decide +kernel), if_neg (by decide +kernel), if_pos rfl])
      subst hps
      refine ⟨_, rfl, fun x dx nx ndx nex => ⟨x, dx, a, [.str "swap", v1, v2], v1, v2, rfl, upd_same, ?_, rfl, rfl, rfl, ?_⟩⟩
      · rw [upd_ne (ne_of_none (hS _ _ ha) nx), upd_ne (ne_of_none (hS _ _ ha) ndx)]; exact hS _ _ ha
      · refine k x dx _ (fun b o q => ?_) (hS.free nx) (by rw [upd_same]; rfl)
        rw [upd_ne (ne_of_none (hS b o q) nx), upd_ne (ne_of_none (hS b o q) nx), upd_ne (ne_of_none (hS b o q) ndx)]; exact hS b o q
    refine ⟨_, rfl, rfl, _, rfl, iteD (fun e => ?_) (fun n6 => ?_)⟩
    · cases str_inj e
      refine ⟨_, rfl, fun x dx nx ndx nex => ⟨x, t.cClear, dx, [], a, .str "clear" :: ps, rfl, upd_same, T.clClear, T.nPClear, by decide, ?_, rfl, ?_⟩⟩
      · rw [upd_ne (ne_of_none (hS _ _ ha) nx), upd_ne (ne_of_none (hS _ _ ha) ndx)]; exact hS _ _ ha
      · refine k x dx _ (fun b o q => ?_) (hS.free nx) (by rw [upd_same]; rfl)
        rw [upd_ne (ne_of_none (hS b o q) nx), upd_ne (ne_of_none (hS b o q) nx), upd_ne (ne_of_none (hS b o q) ndx)]; exact hS b o q
    have hskip : x0 = "skip" := last_word hk (nn n1) (nn n2) (nn n3) (nn n4) (nn n5) (nn n6)
    subst hskip
    obtain ⟨v1, v2, hps⟩ := two_of hk (bs := [4, 121]) (by unfold boundsM; rw [if_neg (by decide +kernel), if_neg (by decide +kernel), if_neg (by decide +kernel), if_neg (by decide +kernel), if_neg (by decide +kernel), if_neg (by decide +kernel), if_pos rfl])
    subst hps
    refine ⟨_, rfl, fun x dx nx ndx nex => ⟨x, dx, a, [.str "skip", v1, v2], v1, v2, rfl, upd_same, ?_, rfl, rfl, rfl, ?_⟩⟩
    · rw [upd_ne (ne_of_none (hS _ _ ha) nx), upd_ne (ne_of_none (hS _ _ ha) ndx)]; exact hS _ _ ha
    · refine k x dx _ (fun b o q => ?_) (hS.free nx) (by rw [upd_same]; rfl)
      rw [upd_ne (ne_of_none (hS b o q) nx), upd_ne (ne_of_none (hS b o q) nx), upd_ne (ne_of_none (hS b o q) ndx)]; exact hS b o q
end
end TL


namespace TL
open PySem PySem.Spec PyProof.Rows PySem.SeqAt L2 L3
abbrev sTold0 : Stmt := inClass (top 8) 1
abbrev sNexts0 : Stmt := inClass (top 8) 2
abbrev sSets0 : Stmt := inClass (top 8) 3
abbrev sLooks0 : Stmt := inClass (top 8) 4
abbrev sEmpt0 : Stmt := inClass (top 8) 5
abbrev sSetSets : Stmt := inClass (top 11) 1
abbrev sLookLooks : Stmt := inClass (top 12) 1
abbrev sSwapSets : Stmt := inClass (top 13) 1
abbrev sSwapLooks : Stmt := inClass (top 13) 2
abbrev sSwapEmpt : Stmt := inClass (top 13) 3
abbrev sClearEmpt : Stmt := inClass (top 14) 0
abbrev sSkipNexts : Stmt := inClass (top 15) 1
theorem boot_set' : bootBuiltins "set" = some (.type "set") := by decide +kernel
theorem setI_K {X : Cx} (P : Program) (w : World) (K : PySem.W.Frag) (hc : X.calm = true) (h1 : X.prog = P := by rfl) (h2 : X.w = w := by rfl) (h3 : X.K = K := by rfl) : CallR X (.type "set") (rSetI P w K) := by subst h1 h2 h3; exact call_setI hc
theorem sortS_K {X : Cx} (P : Program) (w : World) (hc : X.calm = true) (h1 : X.prog = P := by rfl) (h2 : X.w = w := by rfl) : CallR X (.builtin "sorted") (rSortS P w) := by subst h1 h2; exact call_sortedS hc
section
variable {P : Program} {w : World} {K : PySem.W.Frag} {mg : Str → Option Value} {base : Heap}
/-! ### what a step tells -/
def spNon : Sp := fun vs H Q _ => ∃ a, vs = [.ref a] ∧ Q .non H
def spBl (b : Bool) : Sp := fun vs H Q _ => ∃ a, vs = [.ref a] ∧ Q (.bl b) H
def spFld (K : PySem.W.Frag) (nm : Str) : Sp := fun vs H Q _ => ∃ a C dx fs v, vs = [.ref a] ∧ H a = some (.ins C dx fs) ∧ Cls K C ∧ NoAttr K C nm ∧ fs.lookup nm = some v ∧ Q v H
def spNexts : Sp := fun vs H Q _ => ∃ a p, vs = [.ref a, .int p] ∧ ∀ l, H l = none → Q (.ref l) (upd H l (.lst [.int (p + 1)]))
def spSkipN (K : PySem.W.Frag) : Sp := fun vs H Q _ => ∃ a C dx fs p q, vs = [.ref a, .int p] ∧ H a = some (.ins C dx fs) ∧ Cls K C ∧ NoAttr K C "place" ∧ fs.lookup ("place" : Str) = some (.int q) ∧
  ∀ H' l zs, Same H H' → H l = none → H' l = some (.lst (zs.map V.int)) → List.Perm zs (onceL [p + 1, q]) → zs.Pairwise (· < ·) → Q (.ref l) H'
theorem scTold0 : FnScope ["self"] ["self"] (defScope sTold0) := ⟨rfl, rfl, rfl, by decide +kernel, rfl, by decide +kernel, by decide +kernel⟩
theorem ok_Told0 {f : Addr} {fd : FuncData} (F : Fun K "told" "Step.told" sTold0 f fd) : FnOk P w K mg base CX0 1 f fd ["self"] (spFld K "parts") := by
  refine F.ok scTold0 (fun vs H Q E h => ?_) (fun cdv A outer s H vs Q E hr h => ?_)
  · obtain ⟨a, C, dx, fs, v, rfl, _⟩ := h
    rfl
  · obtain ⟨a, C, dx, fs, v, rfl, ha, cl, na, hl, k⟩ := h
    exact ⟨_, pss_one (ps_ret (pe_fld (pv 0) rfl)), _, rfl, a, C, dx, fs, v, rfl, ha, cl, na, hl, k⟩
theorem scSets0 : FnScope ["self"] ["self"] (defScope sSets0) := ⟨rfl, rfl, rfl, by decide +kernel, rfl, by decide +kernel, by decide +kernel⟩
theorem ok_Sets0 {f : Addr} {fd : FuncData} (F : Fun K "sets" "Step.sets" sSets0 f fd) : FnOk P w K mg base CX0 1 f fd ["self"] (spNon) := by
  refine F.ok scSets0 (fun vs H Q E h => ?_) (fun cdv A outer s H vs Q E hr h => ?_)
  · obtain ⟨a, rfl, _⟩ := h
    rfl
  · obtain ⟨a, rfl, k⟩ := h
    exact ⟨_, pss_one (ps_ret pe_non), k⟩
theorem scLooks0 : FnScope ["self"] ["self"] (defScope sLooks0) := ⟨rfl, rfl, rfl, by decide +kernel, rfl, by decide +kernel, by decide +kernel⟩
theorem ok_Looks0 {f : Addr} {fd : FuncData} (F : Fun K "looks" "Step.looks" sLooks0 f fd) : FnOk P w K mg base CX0 1 f fd ["self"] (spNon) := by
  refine F.ok scLooks0 (fun vs H Q E h => ?_) (fun cdv A outer s H vs Q E hr h => ?_)
  · obtain ⟨a, rfl, _⟩ := h
    rfl
  · obtain ⟨a, rfl, k⟩ := h
    exact ⟨_, pss_one (ps_ret pe_non), k⟩
theorem scEmpt0 : FnScope ["self"] ["self"] (defScope sEmpt0) := ⟨rfl, rfl, rfl, by decide +kernel, rfl, by decide +kernel, by decide +kernel⟩
theorem ok_Empt0 {f : Addr} {fd : FuncData} (F : Fun K "empties" "Step.empties" sEmpt0 f fd) : FnOk P w K mg base CX0 1 f fd ["self"] (spBl false) := by
  refine F.ok scEmpt0 (fun vs H Q E h => ?_) (fun cdv A outer s H vs Q E hr h => ?_)
  · obtain ⟨a, rfl, _⟩ := h
    rfl
  · obtain ⟨a, rfl, k⟩ := h
    exact ⟨_, pss_one (ps_ret pe_bl), k⟩
theorem scSetSets : FnScope ["self"] ["self"] (defScope sSetSets) := ⟨rfl, rfl, rfl, by decide +kernel, rfl, by decide +kernel, by decide +kernel⟩
theorem ok_SetSets {f : Addr} {fd : FuncData} (F : Fun K "sets" "Set.sets" sSetSets f fd) : FnOk P w K mg base CX0 1 f fd ["self"] (spFld K "name") := by
  refine F.ok scSetSets (fun vs H Q E h => ?_) (fun cdv A outer s H vs Q E hr h => ?_)
  · obtain ⟨a, C, dx, fs, v, rfl, _⟩ := h
    rfl
  · obtain ⟨a, C, dx, fs, v, rfl, ha, cl, na, hl, k⟩ := h
    exact ⟨_, pss_one (ps_ret (pe_fld (pv 0) rfl)), _, rfl, a, C, dx, fs, v, rfl, ha, cl, na, hl, k⟩
theorem scLookLooks : FnScope ["self"] ["self"] (defScope sLookLooks) := ⟨rfl, rfl, rfl, by decide +kernel, rfl, by decide +kernel, by decide +kernel⟩
theorem ok_LookLooks {f : Addr} {fd : FuncData} (F : Fun K "looks" "Look.looks" sLookLooks f fd) : FnOk P w K mg base CX0 1 f fd ["self"] (spFld K "name") := by
  refine F.ok scLookLooks (fun vs H Q E h => ?_) (fun cdv A outer s H vs Q E hr h => ?_)
  · obtain ⟨a, C, dx, fs, v, rfl, _⟩ := h
    rfl
  · obtain ⟨a, C, dx, fs, v, rfl, ha, cl, na, hl, k⟩ := h
    exact ⟨_, pss_one (ps_ret (pe_fld (pv 0) rfl)), _, rfl, a, C, dx, fs, v, rfl, ha, cl, na, hl, k⟩
theorem scSwapSets : FnScope ["self"] ["self"] (defScope sSwapSets) := ⟨rfl, rfl, rfl, by decide +kernel, rfl, by decide +kernel, by decide +kernel⟩
theorem ok_SwapSets {f : Addr} {fd : FuncData} (F : Fun K "sets" "Swap.sets" sSwapSets f fd) : FnOk P w K mg base CX0 1 f fd ["self"] (spFld K "name") := by
  refine F.ok scSwapSets (fun vs H Q E h => ?_) (fun cdv A outer s H vs Q E hr h => ?_)
  · obtain ⟨a, C, dx, fs, v, rfl, _⟩ := h
    rfl
  · obtain ⟨a, C, dx, fs, v, rfl, ha, cl, na, hl, k⟩ := h
    exact ⟨_, pss_one (ps_ret (pe_fld (pv 0) rfl)), _, rfl, a, C, dx, fs, v, rfl, ha, cl, na, hl, k⟩
theorem scSwapLooks : FnScope ["self"] ["self"] (defScope sSwapLooks) := ⟨rfl, rfl, rfl, by decide +kernel, rfl, by decide +kernel, by decide +kernel⟩
theorem ok_SwapLooks {f : Addr} {fd : FuncData} (F : Fun K "looks" "Swap.looks" sSwapLooks f fd) : FnOk P w K mg base CX0 1 f fd ["self"] (spFld K "name") := by
  refine F.ok scSwapLooks (fun vs H Q E h => ?_) (fun cdv A outer s H vs Q E hr h => ?_)
  · obtain ⟨a, C, dx, fs, v, rfl, _⟩ := h
    rfl
  · obtain ⟨a, C, dx, fs, v, rfl, ha, cl, na, hl, k⟩ := h
    exact ⟨_, pss_one (ps_ret (pe_fld (pv 0) rfl)), _, rfl, a, C, dx, fs, v, rfl, ha, cl, na, hl, k⟩
theorem scSwapEmpt : FnScope ["self"] ["self"] (defScope sSwapEmpt) := ⟨rfl, rfl, rfl, by decide +kernel, rfl, by decide +kernel, by decide +kernel⟩
theorem ok_SwapEmpt {f : Addr} {fd : FuncData} (F : Fun K "empties" "Swap.empties" sSwapEmpt f fd) : FnOk P w K mg base CX0 1 f fd ["self"] (spBl true) := by
  refine F.ok scSwapEmpt (fun vs H Q E h => ?_) (fun cdv A outer s H vs Q E hr h => ?_)
  · obtain ⟨a, rfl, _⟩ := h
    rfl
  · obtain ⟨a, rfl, k⟩ := h
    exact ⟨_, pss_one (ps_ret pe_bl), k⟩
theorem scClearEmpt : FnScope ["self"] ["self"] (defScope sClearEmpt) := ⟨rfl, rfl, rfl, by decide +kernel, rfl, by decide +kernel, by decide +kernel⟩
theorem ok_ClearEmpt {f : Addr} {fd : FuncData} (F : Fun K "empties" "Clear.empties" sClearEmpt f fd) : FnOk P w K mg base CX0 1 f fd ["self"] (spBl true) := by
  refine F.ok scClearEmpt (fun vs H Q E h => ?_) (fun cdv A outer s H vs Q E hr h => ?_)
  · obtain ⟨a, rfl, _⟩ := h
    rfl
  · obtain ⟨a, rfl, k⟩ := h
    exact ⟨_, pss_one (ps_ret pe_bl), k⟩
theorem scSkipNexts : FnScope ["self", "place"] ["self", "place"] (defScope sSkipNexts) := ⟨rfl, rfl, rfl, by decide +kernel, rfl, by decide +kernel, by decide +kernel⟩
theorem ok_SkipNexts {f : Addr} {fd : FuncData} (F : Fun K "nexts" "Skip.nexts" sSkipNexts f fd) (hs : mg "sorted" = none) (ht : mg "set" = none) : FnOk P w K mg base CX0 1 f fd ["self", "place"] (spSkipN K) := by
  refine F.ok scSkipNexts (fun vs H Q E h => ?_) (fun cdv A outer s H vs Q E hr h => ?_)
  · obtain ⟨a, C, dx, fs, p, q, rfl, _⟩ := h
    rfl
  · obtain ⟨a, C, dx, fs, p, q, rfl, ha, cl, na, hl, k⟩ := h
    refine ⟨_, pss_one (ps_ret (pe_callB (sortS_K P w rfl) rfl hs boot_sorted (pa_cons (pe_callTy (setI_K P w K rfl) rfl ht boot_set' (pa_cons (pe_lst (pa_cons (pe_op op_add (pv 1) pe_int) (pa_cons (pe_fld (pv 0) rfl) pa_nil))) pa_nil)) pa_nil))), ?_⟩
    refine ⟨_, rfl, _, _, rfl, rfl, _, rfl, a, C, dx, fs, _, rfl, ha, cl, na, hl, by show 2 ≤ sizeLine; decide, fun l0 n0 => ?_⟩
    refine ⟨l0, [p + 1, q], rfl, SqL.of upd_same, by show 2 < 4000; decide, fun b nb => ⟨b, _, rfl, upd_same, ?_, fun l zs nl hp hs => ?_⟩⟩
    · have := once_len [p + 1, q]
      simp only [List.length_cons, List.length_nil] at this
      omega
    · have s1 : Same H (upd (upd (upd H l0 (.lst [.int (p + 1), .int q])) b (setO P w b (onceL [p + 1, q]))) l (.lst (zs.map V.int))) := same_new (same_new (same_new (Same.refl _) n0) nb) nl
      exact k _ l zs s1 ((same_new (same_new (Same.refl _) n0) nb).free nl) upd_same hp hs
theorem scNexts : FnScope ["self", "place"] ["self", "place"] (defScope sNexts0) := ⟨rfl, rfl, rfl, by decide +kernel, rfl, by decide +kernel, by decide +kernel⟩
theorem ok_Nexts {f : Addr} {fd : FuncData} (F : Fun K "nexts" "Step.nexts" sNexts0 f fd) : FnOk P w K mg base CX0 1 f fd ["self", "place"] spNexts := by
  refine F.ok scNexts (fun vs H Q E h => ?_) (fun cdv A outer s H vs Q E hr h => ?_)
  · obtain ⟨a, p, rfl, _⟩ := h
    rfl
  · obtain ⟨a, p, rfl, k⟩ := h
    exact ⟨_, pss_one (ps_ret (pe_lst (pa_cons (pe_op op_add (pv 1) pe_int) pa_nil))), _, rfl, _, _, rfl, rfl, by show 1 ≤ sizeLine; decide, fun l nl => k l nl⟩
end
end TL


namespace TL
open PySem PySem.Spec PyProof.Rows PySem.SeqAt L2 L3
abbrev sGood : Stmt := top 25
abbrev sRefused : Stmt := top 23
abbrev sLBounds : Stmt := top 24
abbrev sSpoilt : Stmt := top 26
abbrev sMixed : Stmt := top 22
abbrev sLaw : Stmt := top 27
theorem passE {P : Program} {w : World} {X : Cx} : Passes (CXE P w) X E0 := fun _ _ _ _ _ _ _ h => by
  obtain ⟨_, _, _, _, _, _, _, _, _, _, _, _, _, _, _, z⟩ := h
  exact z.elim
structure MsT where
  (fTold0 fNexts fSets0 fLooks0 fEmpt0 fSetSets fLookLooks fSwapSets fSwapLooks fSwapEmpt fClearEmpt fSkipNexts : Addr)
  (fdTold0 fdNexts fdSets0 fdLooks0 fdEmpt0 fdSetSets fdLookLooks fdSwapSets fdSwapLooks fdSwapEmpt fdClearEmpt fdSkipNexts : FuncData)
structure MsOk (K : PySem.W.Frag) (mg : Str → Option Value) (t : Adr) (m : MsT) : Prop where
  st : StepsT K mg t
  sorted : mg "sorted" = none
  set : mg "set" = none
  fnTold0 : Fun K "told" "Step.told" sTold0 m.fTold0 m.fdTold0
  bTold0 : Binds K m.fdTold0 ["self"] []
  fnNexts : Fun K "nexts" "Step.nexts" sNexts0 m.fNexts m.fdNexts
  bNexts : Binds K m.fdNexts ["self", "place"] []
  fnSets0 : Fun K "sets" "Step.sets" sSets0 m.fSets0 m.fdSets0
  bSets0 : Binds K m.fdSets0 ["self"] []
  fnLooks0 : Fun K "looks" "Step.looks" sLooks0 m.fLooks0 m.fdLooks0
  bLooks0 : Binds K m.fdLooks0 ["self"] []
  fnEmpt0 : Fun K "empties" "Step.empties" sEmpt0 m.fEmpt0 m.fdEmpt0
  bEmpt0 : Binds K m.fdEmpt0 ["self"] []
  fnSetSets : Fun K "sets" "Set.sets" sSetSets m.fSetSets m.fdSetSets
  bSetSets : Binds K m.fdSetSets ["self"] []
  fnLookLooks : Fun K "looks" "Look.looks" sLookLooks m.fLookLooks m.fdLookLooks
  bLookLooks : Binds K m.fdLookLooks ["self"] []
  fnSwapSets : Fun K "sets" "Swap.sets" sSwapSets m.fSwapSets m.fdSwapSets
  bSwapSets : Binds K m.fdSwapSets ["self"] []
  fnSwapLooks : Fun K "looks" "Swap.looks" sSwapLooks m.fSwapLooks m.fdSwapLooks
  bSwapLooks : Binds K m.fdSwapLooks ["self"] []
  fnSwapEmpt : Fun K "empties" "Swap.empties" sSwapEmpt m.fSwapEmpt m.fdSwapEmpt
  bSwapEmpt : Binds K m.fdSwapEmpt ["self"] []
  fnClearEmpt : Fun K "empties" "Clear.empties" sClearEmpt m.fClearEmpt m.fdClearEmpt
  bClearEmpt : Binds K m.fdClearEmpt ["self"] []
  fnSkipNexts : Fun K "nexts" "Skip.nexts" sSkipNexts m.fSkipNexts m.fdSkipNexts
  bSkipNexts : Binds K m.fdSkipNexts ["self", "place"] []
  mPut_told : Meth K t.cPut "told" m.fTold0
  mPut_nexts : Meth K t.cPut "nexts" m.fNexts
  mPut_sets : Meth K t.cPut "sets" m.fSets0
  mPut_looks : Meth K t.cPut "looks" m.fLooks0
  mPut_empties : Meth K t.cPut "empties" m.fEmpt0
  mAdd_told : Meth K t.cAdd "told" m.fTold0
  mAdd_nexts : Meth K t.cAdd "nexts" m.fNexts
  mAdd_sets : Meth K t.cAdd "sets" m.fSets0
  mAdd_looks : Meth K t.cAdd "looks" m.fLooks0
  mAdd_empties : Meth K t.cAdd "empties" m.fEmpt0
  mSet_told : Meth K t.cSet "told" m.fTold0
  mSet_nexts : Meth K t.cSet "nexts" m.fNexts
  mSet_sets : Meth K t.cSet "sets" m.fSetSets
  mSet_looks : Meth K t.cSet "looks" m.fLooks0
  mSet_empties : Meth K t.cSet "empties" m.fEmpt0
  mLook_told : Meth K t.cLook "told" m.fTold0
  mLook_nexts : Meth K t.cLook "nexts" m.fNexts
  mLook_sets : Meth K t.cLook "sets" m.fSets0
  mLook_looks : Meth K t.cLook "looks" m.fLookLooks
  mLook_empties : Meth K t.cLook "empties" m.fEmpt0
  mSwap_told : Meth K t.cSwap "told" m.fTold0
  mSwap_nexts : Meth K t.cSwap "nexts" m.fNexts
  mSwap_sets : Meth K t.cSwap "sets" m.fSwapSets
  mSwap_looks : Meth K t.cSwap "looks" m.fSwapLooks
  mSwap_empties : Meth K t.cSwap "empties" m.fSwapEmpt
  mClear_told : Meth K t.cClear "told" m.fTold0
  mClear_nexts : Meth K t.cClear "nexts" m.fNexts
  mClear_sets : Meth K t.cClear "sets" m.fSets0
  mClear_looks : Meth K t.cClear "looks" m.fLooks0
  mClear_empties : Meth K t.cClear "empties" m.fClearEmpt
  mSkip_told : Meth K t.cSkip "told" m.fTold0
  mSkip_nexts : Meth K t.cSkip "nexts" m.fSkipNexts
  mSkip_sets : Meth K t.cSkip "sets" m.fSets0
  mSkip_looks : Meth K t.cSkip "looks" m.fLooks0
  mSkip_empties : Meth K t.cSkip "empties" m.fEmpt0
theorem clsW_put (t : Adr) : clsW t "put" = t.cPut := by unfold clsW; rw [if_pos rfl]
theorem bo_put : boundsM "put" = some [4, TOPi] := by unfold boundsM; rw [if_pos rfl]
theorem clsW_add (t : Adr) : clsW t "add" = t.cAdd := by unfold clsW; rw [if_neg (by decide +kernel), if_pos rfl]
theorem bo_add : boundsM "add" = some [4, 4] := by unfold boundsM; rw [if_neg (by decide +kernel), if_pos rfl]
theorem clsW_set (t : Adr) : clsW t "set" = t.cSet := by unfold clsW; rw [if_neg (by decide +kernel), if_neg (by decide +kernel), if_pos rfl]
theorem bo_set : boundsM "set" = some [12, 4] := by unfold boundsM; rw [if_neg (by decide +kernel), if_neg (by decide +kernel), if_pos rfl]
theorem clsW_look (t : Adr) : clsW t "look" = t.cLook := by unfold clsW; rw [if_neg (by decide +kernel), if_neg (by decide +kernel), if_neg (by decide +kernel), if_pos rfl]
theorem bo_look : boundsM "look" = some [4, 12] := by unfold boundsM; rw [if_neg (by decide +kernel), if_neg (by decide +kernel), if_neg (by decide +kernel), if_pos rfl]
theorem clsW_swap (t : Adr) : clsW t "swap" = t.cSwap := by unfold clsW; rw [if_neg (by decide +kernel), if_neg (by decide +kernel), if_neg (by decide +kernel), if_neg (by decide +kernel), if_pos rfl]
theorem bo_swap : boundsM "swap" = some [4, 12] := by unfold boundsM; rw [if_neg (by decide +kernel), if_neg (by decide +kernel), if_neg (by decide +kernel), if_neg (by decide +kernel), if_pos rfl]
theorem clsW_clear (t : Adr) : clsW t "clear" = t.cClear := by unfold clsW; rw [if_neg (by decide +kernel), if_neg (by decide +kernel), if_neg (by decide +kernel), if_neg (by decide +kernel), if_neg (by decide +kernel), if_pos rfl]
theorem bo_clear : boundsM "clear" = some [] := by unfold boundsM; rw [if_neg (by decide +kernel), if_neg (by decide +kernel), if_neg (by decide +kernel), if_neg (by decide +kernel), if_neg (by decide +kernel), if_pos rfl]
theorem clsW_skip (t : Adr) : clsW t "skip" = t.cSkip := by unfold clsW; rw [if_neg (by decide +kernel), if_neg (by decide +kernel), if_neg (by decide +kernel), if_neg (by decide +kernel), if_neg (by decide +kernel), if_neg (by decide +kernel)]
theorem bo_skip : boundsM "skip" = some [4, 121] := by unfold boundsM; rw [if_neg (by decide +kernel), if_neg (by decide +kernel), if_neg (by decide +kernel), if_neg (by decide +kernel), if_neg (by decide +kernel), if_neg (by decide +kernel), if_pos rfl]
theorem ints_of {x : Str} {ps : List V} {b c : Int} (h : stepOk (.str x :: ps) = true) (hb : boundsM x = some [b, c]) : ∃ i j, ps = [.int i, .int j] := by
  obtain ⟨v1, v2, rfl⟩ := two_of h hb
  have h' : (match boundsM x with | none => false | some bs => decide (([v1, v2] : List V).length = bs.length) && (([v1, v2] : List V).zip bs).all fun p => wIn p.1 p.2) = true := h
  rw [hb] at h'
  simp only [List.zip_cons_cons, List.all_cons, Bool.and_eq_true] at h'
  obtain ⟨_, h1, h2, _⟩ := h'
  cases v1 <;> simp only [wIn] at h1 <;> first | cases h1 | skip
  cases v2 <;> simp only [wIn] at h2 <;> first | cases h2 | skip
  exact ⟨_, _, rfl⟩
theorem none_of {ps : List V} (h : stepOk (.str "clear" :: ps) = true) : ps = [] := by
  have h' : (match boundsM "clear" with | none => false | some bs => decide (ps.length = bs.length) && (ps.zip bs).all fun p => wIn p.1 p.2) = true := h
  rw [bo_clear] at h'
  simp only [Bool.and_eq_true, decide_eq_true_eq] at h'
  exact List.length_eq_zero_iff.mp h'.1
theorem words_of {x : Str} {ps : List V} (h : stepOk (.str x :: ps) = true) : (x = "clear" ∧ ps = []) ∨ ∃ i j, ps = [.int i, .int j] ∧ (x = "put" ∨ x = "add" ∨ x = "set" ∨ x = "look" ∨ x = "swap" ∨ x = "skip") := by
  by_cases h_put : x = "put"
  · subst h_put
    obtain ⟨i, j, e⟩ := ints_of h bo_put
    exact .inr ⟨i, j, e, .inl rfl⟩
  by_cases h_add : x = "add"
  · subst h_add
    obtain ⟨i, j, e⟩ := ints_of h bo_add
    exact .inr ⟨i, j, e, .inr (.inl rfl)⟩
  by_cases h_set : x = "set"
  · subst h_set
    obtain ⟨i, j, e⟩ := ints_of h bo_set
    exact .inr ⟨i, j, e, .inr (.inr (.inl rfl))⟩
  by_cases h_look : x = "look"
  · subst h_look
    obtain ⟨i, j, e⟩ := ints_of h bo_look
    exact .inr ⟨i, j, e, .inr (.inr (.inr (.inl rfl)))⟩
  by_cases h_swap : x = "swap"
  · subst h_swap
    obtain ⟨i, j, e⟩ := ints_of h bo_swap
    exact .inr ⟨i, j, e, .inr (.inr (.inr (.inr (.inl rfl))))⟩
  by_cases h_clear : x = "clear"
  · subst h_clear; exact .inl ⟨rfl, none_of h⟩
  have e := last_word h h_put h_add h_set h_look h_swap h_clear
  subst e
  obtain ⟨i, j, e⟩ := ints_of h bo_skip
  exact .inr ⟨i, j, e, .inr (.inr (.inr (.inr (.inr (rfl)))))⟩
theorem flds_no (v : V) (x : Str) (ps : List V) : ∀ m ∈ (["told", "nexts", "sets", "looks", "empties"] : List Str), (fldsW v x ps).lookup m = none := by
  intro m hm
  simp only [List.mem_cons, List.mem_nil_iff, or_false] at hm
  rcases hm with rfl | rfl | rfl | rfl | rfl <;> unfold fldsW <;> repeat (first | (split; (simp only [lookup_putF]; repeat rw [if_neg (by decide +kernel)]; rfl)) | (simp only [lookup_putF]; repeat rw [if_neg (by decide +kernel)]; rfl))
theorem flds_parts (v : V) (x : Str) (ps : List V) : (fldsW v x ps).lookup ("parts" : Str) = some v := by
  unfold fldsW
  repeat' split
  all_goals (simp only [lookup_putF]; repeat (first | rw [if_pos trivial] | rw [if_neg (by decide +kernel)]))
theorem flds_set (v u1 u2 : V) : (fldsW v "set" [u1, u2]).lookup ("name" : Str) = some u1 := by
  unfold fldsW
  rw [if_neg (by decide +kernel), if_neg (by decide +kernel), if_pos rfl]
  simp only [lookup_putF]
  repeat (first | rw [if_pos trivial] | rw [if_neg (by decide +kernel)])
  rfl
theorem flds_look (v u1 u2 : V) : (fldsW v "look" [u1, u2]).lookup ("name" : Str) = some u2 := by
  unfold fldsW
  rw [if_neg (by decide +kernel), if_neg (by decide +kernel), if_neg (by decide +kernel), if_pos rfl]
  simp only [lookup_putF]
  repeat (first | rw [if_pos trivial] | rw [if_neg (by decide +kernel)])
  rfl
theorem flds_swap (v u1 u2 : V) : (fldsW v "swap" [u1, u2]).lookup ("name" : Str) = some u2 := by
  unfold fldsW
  rw [if_neg (by decide +kernel), if_neg (by decide +kernel), if_neg (by decide +kernel), if_neg (by decide +kernel), if_pos rfl]
  simp only [lookup_putF]
  repeat (first | rw [if_pos trivial] | rw [if_neg (by decide +kernel)])
  rfl
theorem flds_skip (v u1 u2 : V) : (fldsW v "skip" [u1, u2]).lookup ("place" : Str) = some u2 := by
  unfold fldsW
  rw [if_neg (by decide +kernel), if_neg (by decide +kernel), if_neg (by decide +kernel), if_neg (by decide +kernel), if_neg (by decide +kernel), if_neg (by decide +kernel)]
  simp only [lookup_putF]
  repeat (first | rw [if_pos trivial] | rw [if_neg (by decide +kernel)])
  rfl
end TL


namespace TL
open PySem PySem.Spec PyProof.Rows PySem.SeqAt L2 L3
theorem shaped_intsL (ns : List Int) : shaped (.list (ns.map PyData.int)) = true := shaped_map (fun e _ => by simp [PyData.canLay0]) fun e _ => by simp [PyData.depth]
theorem dats_ints {K : PySem.W.Frag} {H : Hp} : ∀ ns : List Int, DatVs K H (ns.map V.int) (ns.map PyData.int)
  | [] => .nil
  | n :: r => .cons (.int n) (dats_ints r)
theorem dat_intsL {K : PySem.W.Frag} {H : Hp} {l : Addr} {ns : List Int} (h : H l = some (.lst (ns.map V.int))) : DatV K H (.ref l) (.list (ns.map PyData.int)) := .lst (SqL.of h) (dats_ints ns)
theorem dat_told {K : PySem.W.Frag} {H : Hp} {a : Addr} {x : Str} {ns : List Int} (h : H a = some (.tup (.str x :: ns.map V.int))) : DatV K H (.ref a) (.tuple (.str x :: ns.map PyData.int)) := .tup (SqT.of h) (.cons (.str x) (dats_ints ns))
theorem shaped_told0 (x : Str) (h : PyData.strOk x = true) : shaped (.tuple (.str x :: ([] : List Int).map PyData.int)) = true := by simp [h, shaped, PyData.canLay0, PyData.canLayAll0, PyData.depth, PyData.depthAll]
theorem shaped_told2 (x : Str) (i j : Int) (h : PyData.strOk x = true) : shaped (.tuple (.str x :: [i, j].map PyData.int)) = true := by simp [h, shaped, PyData.canLay0, PyData.canLayAll0, PyData.depth, PyData.depthAll]
theorem iteE {c : Bool} {A B : Prop} (h : c = false) (hB : B) : if c = true then A else B := by subst h; exact iteF hB
theorem iteU {c : Bool} {A B : Prop} (h : c = true) (hA : A) : if c = true then A else B := by subst h; exact iteT hA
theorem sort_eq {zs ys L : List Int} (h1 : List.Perm zs L) (h2 : List.Perm ys L) (a1 : zs.Pairwise (· < ·)) (a2 : ys.Pairwise (· < ·)) : zs = ys :=
  PySem.W.ksm_same (h1.trans h2.symm) (a1.imp fun h => Int.le_of_lt h) (a2.imp fun h => Int.le_of_lt h)
section
variable {P : Program} {w : World} {K : PySem.W.Frag} {mg : Str → Option Value} {base : Heap} {t : Adr} {m : MsT}
def spGood : Sp := fun vs H Q _ => ∃ a p x ps, vs = [.ref a, .int p] ∧ H a = some (.tup (.str x :: ps)) ∧ stepOk (.str x :: ps) = true ∧ ∀ H', Same H H' → Q (.bl true) H'
theorem scGood : FnScope ["_law_told", "_law_place", "_law_step", "_law_word", "_law_nexts", "_law_name", "_law_seen", "_law_needs"] ["_law_told", "_law_place"] (defScope sGood) := ⟨rfl, rfl, rfl, by decide +kernel, rfl, by decide +kernel, by decide +kernel⟩
abbrev goodS (i : Nat) : Stmt := (defBody sGood).getD i (.Pass ⟨0, 0, 0, 0⟩)
theorem bodyG : defBody sGood = [goodS 0, goodS 1, goodS 2, goodS 3, goodS 4, goodS 5, goodS 6, goodS 7, goodS 8, goodS 9, goodS 10, goodS 11] := rfl
theorem ok_Good {f : Addr} {fd : FuncData} (F : Fun K "_law_good" "_law_good" sGood f fd) (T : MsOk K mg t m) {cN : Addr} (xc : XC K cN) (mX : mg "NoStep" = some (.ref cN)) : FnOk P w K mg base CX0 5 f fd ["_law_told", "_law_place"] spGood := by
  have GX : FnOk P w K mg base (CXE P w) 4 t.fO t.fdO ["told"] (spStepX t cN) := ok_stepX T.st xc mX
  refine F.ok scGood (fun vs H Q E h => ?_) (fun cdv A outer s H vs Q E hr h => ?_)
  · obtain ⟨a, p, x, ps, rfl, _⟩ := h
    rfl
  · obtain ⟨a, p, x, ps, rfl, ha, hk, k⟩ := h
    have hr1 := hr.mono (j := 1) (by decide)
    have hu := hr.units
    have sq : ∀ {A B C : Prop}, A → B → C → A ∧ B ∧ C := fun a b c => ⟨a, b, c⟩
    obtain ⟨tT, hT, useT⟩ : ∃ tT, PSs (cxOf CX0 P w K mg base ["_law_told", "_law_place", "_law_step", "_law_word", "_law_nexts", "_law_name", "_law_seen", "_law_needs"] "_law_good" (defScope sGood) f cdv A outer s H E).nox [goodS 10, goodS 11] tT ∧
        ∀ (C z dx : Addr) (fs : List (Str × V)) (ln : Addr) (zs ns : List Int) (x : Str) (nv sv : V) (nb : Bool) (H3 : Hp), Same H H3 → H3 a = some (.tup (.str x :: ns.map V.int)) → shaped (.tuple (.str x :: ns.map PyData.int)) = true →
          H3 z = some (.ins C dx fs) → Cls K C → (fs.lookup ("told" : Str) = none ∧ fs.lookup ("nexts" : Str) = none ∧ fs.lookup ("sets" : Str) = none ∧ fs.lookup ("looks" : Str) = none ∧ fs.lookup ("empties" : Str) = none) → H3 ln = some (.lst (zs.map V.int)) →
          Meth K C "told" m.fTold0 → NoAttr K C "parts" → fs.lookup ("parts" : Str) = some (.ref a) →
          (∃ f fd ps sp, Meth K C "nexts" f ∧ FnOk P w K mg base CX0 1 f fd ps sp ∧ Binds K fd ps [] ∧ ∀ Q : VK, (∀ l H', Same H3 H' → H' l = some (.lst (zs.map V.int)) → Q (.ref l) H') → sp [.ref z, .int p] H3 Q E0) →
          (∃ f fd ps sp, Meth K C "sets" f ∧ FnOk P w K mg base CX0 1 f fd ps sp ∧ Binds K fd ps [] ∧ ∀ (H4 : Hp) (Q : VK), Same H3 H4 → Q nv H4 → sp [.ref z] H4 Q E0) → scal nv nv = true →
          (∃ f fd ps sp, Meth K C "looks" f ∧ FnOk P w K mg base CX0 1 f fd ps sp ∧ Binds K fd ps [] ∧ ∀ (H4 : Hp) (Q : VK), Same H3 H4 → Q sv H4 → sp [.ref z] H4 Q E0) → scal sv sv = true →
          (∃ f fd ps, Meth K C "empties" f ∧ FnOk P w K mg base CX0 1 f fd ps (spBl nb) ∧ Binds K fd ps []) →
          tT { nx := fun _ H' => Q .non H', rt := Q } [some (.ref a), some (.int p), some (.ref z), some (.str x), some (.ref ln), some nv, some sv, some (.bl nb)] H3 := by
      refine ⟨_, (pss_cons (ps_if (PW.pt (pw_or (pt_cmpR (op_neD hu) (pe_methD (k := 1) (CX := CX0) (E := E0) (P := P) (w := w) (K := K) (mg := mg) (base := base) (pv 2) hr1 pass0) (pv 0) (nomark _))
          (pw_or (pt_cmpR (op_neD hu) (pe_methDA (k := 1) (CX := CX0) (E := E0) (P := P) (w := w) (K := K) (mg := mg) (base := base) (pv 2) hr1 pass0 (pa_cons (pv 1) pa_nil)) (pv 4) (nomark _))
          (pw_or (pt_cmpR op_ne (pe_methD (k := 1) (CX := CX0) (E := E0) (P := P) (w := w) (K := K) (mg := mg) (base := base) (pv 2) hr1 pass0) (pv 5) (nomark _))
          (pw_or1 (pt_cmpR op_ne (pe_methD (k := 1) (CX := CX0) (E := E0) (P := P) (w := w) (K := K) (mg := mg) (base := base) (pv 2) hr1 pass0) (pv 6) (nomark _))))))) (pss_one (ps_ret pe_bl)) pss_nil)
      (pss_one (ps_ret (pe_and (pe_callB call_isi rfl T.st.bl.isi boot_isinstance (pa_cons (pe_methD (k := 1) (CX := CX0) (E := E0) (P := P) (w := w) (K := K) (mg := mg) (base := base) (pv 2) hr1 pass0) (pa_cons (pe_bltn (v := .ty "bool") rfl T.st.bl.bool boot_bool rfl) pa_nil)))
          (pe_one (pe_cmpR op_eq (pe_methD (k := 1) (CX := CX0) (E := E0) (P := P) (w := w) (K := K) (mg := mg) (base := base) (pv 2) hr1 pass0) (pv 7) (nomark _))))))), fun C z dx fs ln zs ns x nv sv nb H3 s3 ha3 hsh hz3 cl hno hl3 mTo nP hP hN hSe sc1 hLo sc2 hEm => ?_⟩
      obtain ⟨no1, no2, no3, no4, no5⟩ := hno
      obtain ⟨f2, fd2, ps2, sp2, me2, ok2, b2, run2⟩ := hN
      obtain ⟨f3, fd3, ps3, sp3, me3, ok3, b3, run3⟩ := hSe
      obtain ⟨f4, fd4, ps4, sp4, me4, ok4, b4, run4⟩ := hLo
      obtain ⟨f5, fd5, ps5, me5, ok5, b5⟩ := hEm
      refine ⟨_, rfl, z, C, dx, fs, m.fTold0, _, _, _, rfl, hz3, no1, cl, mTo, ok_Told0 T.fnTold0, T.bTold0, z, C, dx, fs, .ref a, rfl, hz3, cl, nP, hP, ?_⟩
      refine ⟨_, rfl, neD_self (dat_told ha3) (dat_told ha3) hsh ⟨_, rfl, iteF ?_⟩⟩
      refine ⟨_, rfl, z, C, dx, fs, f2, fd2, ps2, sp2, rfl, hz3, no2, cl, me2, ok2, b2, _, rfl, run2 _ fun l4 H4 s4 h4 => ?_⟩
      have hz4 := s4 _ _ hz3
      refine ⟨_, rfl, neD_self (dat_intsL h4) (dat_intsL (s4 _ _ hl3)) (shaped_intsL _) ⟨_, rfl, iteF ?_⟩⟩
      refine ⟨_, rfl, z, C, dx, fs, f3, fd3, ps3, sp3, rfl, hz4, no3, cl, me3, ok3, b3, run3 H4 _ s4 ⟨_, rfl, sc1, _, rfl, iteE (by simp) ?_⟩⟩
      refine ⟨_, rfl, z, C, dx, fs, f4, fd4, ps4, sp4, rfl, hz4, no4, cl, me4, ok4, b4, run4 H4 _ s4 ⟨_, rfl, sc2, _, rfl, iteE (by simp) ?_⟩⟩
      refine ⟨_, rfl, z, C, dx, fs, f5, fd5, ps5, _, rfl, hz4, no5, cl, me5, ok5, b5, z, rfl, ?_⟩
      refine ⟨_, _, _, _, _, rfl, tyT (T := "bool") rfl, rfl, kitU (T := "bool") (H := H4) (v := .bl true) rfl (by decide), _, rfl, iteT ?_⟩
      refine ⟨_, rfl, z, C, dx, fs, f5, fd5, ps5, _, rfl, hz4, no5, cl, me5, ok5, b5, z, rfl, _, rfl, rfl, ?_⟩
      have kk := k H4 (s3.trans s4)
      rw [decide_eq_true rfl]
      exact kk
    rw [bodyG]
    refine ⟨_, pss_cons (ps_set (i := 2) scGood.nd rfl (Or.inl rfl) (pe_call GX hr rfl T.st.mO T.st.fnO.kp T.st.bO .nil passE (pa_cons (pv 0) pa_nil)))
      (pss_cons (ps_set (i := 3) scGood.nd rfl (Or.inl rfl) (pe_ix ix_tup (pv 0) pe_int (fun _ _ => rfl)))
      (pss_cons (ps_set (i := 4) scGood.nd rfl (Or.inl rfl) (pe_lst (pa_cons (pe_op op_add (pv 1) pe_int) pa_nil)))
      (pss_cons (ps_if (pt_cmpR op_eq (pv 3) pe_str (nomark _)) (pss_one (ps_set (i := 4) scGood.nd rfl (Or.inl rfl) (pe_callB (sortS_K P w rfl) rfl T.sorted boot_sorted (pa_cons (pe_callTy (setI_K P w K rfl) rfl T.set boot_set' (pa_cons (pe_lst (pa_cons (pe_op op_add (pv 1) pe_int) (pa_cons (pe_ix ix_tup (pv 0) pe_int (fun _ _ => rfl)) pa_nil))) pa_nil)) pa_nil)))) pss_nil)
      (pss_cons (ps_set (i := 5) scGood.nd rfl (Or.inl rfl) pe_non)
      (pss_cons (ps_if (pt_cmpR op_eq (pv 3) pe_str (nomark _)) (pss_one (ps_set (i := 5) scGood.nd rfl (Or.inl rfl) (pe_ix ix_tup (pv 0) pe_int (fun _ _ => rfl)))) pss_nil)
      (pss_cons (ps_if (pt_cmpR op_eq (pv 3) pe_str (nomark _)) (pss_one (ps_set (i := 5) scGood.nd rfl (Or.inl rfl) (pe_ix ix_tup (pv 0) pe_int (fun _ _ => rfl)))) pss_nil)
      (pss_cons (ps_set (i := 6) scGood.nd rfl (Or.inl rfl) pe_non)
      (pss_cons (ps_if (PW.pt (pw_or (pt_cmpR op_eq (pv 3) pe_str (nomark _)) (pw_or1 (pt_cmpR op_eq (pv 3) pe_str (nomark _))))) (pss_one (ps_set (i := 6) scGood.nd rfl (Or.inl rfl) (pe_ix ix_tup (pv 0) pe_int (fun _ _ => rfl)))) pss_nil)
      (pss_cons (ps_set (i := 7) scGood.nd rfl (Or.inl rfl) (pe_or (pe_cmpR op_eq (pv 3) pe_str (nomark _)) (pe_one (pe_cmpR op_eq (pv 3) pe_str (nomark _)))))
      hT))))))))), ?_⟩
    refine ⟨_, rfl, .ref a, _, rfl, tyName_tup ha, fun xs hv => ?_, fun a' x' ps' ea' ha' _ z dx H1 s1 nz hz => ?_, fun hf => ?_⟩
    · rw [viewT_of ha] at hv
      cases hv
      rcases words_of hk with ⟨rfl, rfl⟩ | ⟨i, j, rfl, _⟩
      · exact ⟨by show 1 ≤ 1000; decide, fun y hy => by simp at hy; subst hy; exact ⟨_, rfl⟩⟩
      · exact ⟨by show 3 ≤ 1000; decide, fun y hy => by simp at hy; rcases hy with rfl | rfl | rfl <;> exact ⟨_, rfl⟩⟩
    rotate_left
    · have : isStep H (.ref a) = true := by unfold isStep; rw [viewT_of ha]; exact hk
      rw [this] at hf; cases hf
    cases ea'
    rw [ha] at ha'
    cases ha'
    have ha1 := s1 _ _ ha
    refine ⟨_, rfl, a, _, 0, .str x, rfl, rfl, SqT.of ha1, atI_nat (j := 0) rfl, ?_⟩
    refine ⟨_, rfl, _, _, rfl, rfl, by show 1 ≤ sizeLine; decide, fun l1 n1 => ?_⟩
    have s2 : Same H1 (upd H1 l1 (.lst [.int (p + 1)])) := same_new (Same.refl _) n1
    have hl2 : upd H1 l1 (.lst [.int (p + 1)]) l1 = some (.lst ([p + 1].map V.int)) := upd_same
    generalize upd H1 l1 (.lst [.int (p + 1)]) = H2 at s2 hl2
    have ha2 := s2 _ _ ha1
    have hz2 := s2 _ _ hz
    have sm2 := s1.trans s2
    rcases words_of hk with ⟨rfl, rfl⟩ | ⟨i, j, rfl, rfl | rfl | rfl | rfl | rfl | rfl⟩
    · rw [clsW_clear] at hz2
      refine ⟨_, rfl, rfl, _, rfl, iteD (fun z => absurd (str_inj z) (by decide +kernel)) (fun _ => ?_)⟩
      have ha3 := ha2
      have hz3 := hz2
      have sm3 := sm2
      have hl3 := hl2
      refine ⟨_, rfl, rfl, _, rfl, iteD (fun z => absurd (str_inj z) (by decide +kernel)) (fun _ => ?_)⟩
      refine ⟨_, rfl, rfl, _, rfl, iteD (fun z => absurd (str_inj z) (by decide +kernel)) (fun _ => ?_)⟩
      refine ⟨_, rfl, rfl, _, rfl, iteD (fun z => absurd (str_inj z) (by decide +kernel)) (fun _ => ?_)⟩
      refine ⟨_, rfl, rfl, _, rfl, iteD (fun z => absurd (str_inj z) (by decide +kernel)) (fun _ => ?_)⟩
      refine ⟨_, rfl, rfl, _, rfl, iteD (fun z => absurd (str_inj z) (by decide +kernel)) (fun _ => ?_)⟩
      refine ⟨_, rfl, rfl, ?_⟩
      exact useT t.cClear z dx _ l1 [p + 1] [] _ (.non) (.non) true _ sm3 ha3 (shaped_told0 _ (by decide +kernel)) hz3 T.st.clClear ⟨flds_no _ _ _ "told" (by decide +kernel), flds_no _ _ _ "nexts" (by decide +kernel), flds_no _ _ _ "sets" (by decide +kernel), flds_no _ _ _ "looks" (by decide +kernel), flds_no _ _ _ "empties" (by decide +kernel)⟩ hl3 T.mClear_told T.st.nPClear (flds_parts _ _ _) ⟨m.fNexts, _, _, _, T.mClear_nexts, ok_Nexts T.fnNexts, T.bNexts, fun Q q => ⟨z, p, rfl, fun l4 n4 => q l4 _ (same_new (Same.refl _) n4) upd_same⟩⟩ ⟨m.fSets0, _, _, _, T.mClear_sets, ok_Sets0 T.fnSets0, T.bSets0, fun H4 Q s4 q => ⟨z, rfl, q⟩⟩ rfl ⟨m.fLooks0, _, _, _, T.mClear_looks, ok_Looks0 T.fnLooks0, T.bLooks0, fun H4 Q s4 q => ⟨z, rfl, q⟩⟩ rfl ⟨m.fClearEmpt, _, _, T.mClear_empties, ok_ClearEmpt T.fnClearEmpt, T.bClearEmpt⟩
    · rw [clsW_put] at hz2
      refine ⟨_, rfl, rfl, _, rfl, iteD (fun z => absurd (str_inj z) (by decide +kernel)) (fun _ => ?_)⟩
      have ha3 := ha2
      have hz3 := hz2
      have sm3 := sm2
      have hl3 := hl2
      refine ⟨_, rfl, rfl, _, rfl, iteD (fun z => absurd (str_inj z) (by decide +kernel)) (fun _ => ?_)⟩
      refine ⟨_, rfl, rfl, _, rfl, iteD (fun z => absurd (str_inj z) (by decide +kernel)) (fun _ => ?_)⟩
      refine ⟨_, rfl, rfl, _, rfl, iteD (fun z => absurd (str_inj z) (by decide +kernel)) (fun _ => ?_)⟩
      refine ⟨_, rfl, rfl, _, rfl, iteD (fun z => absurd (str_inj z) (by decide +kernel)) (fun _ => ?_)⟩
      refine ⟨_, rfl, rfl, _, rfl, iteD (fun z => absurd (str_inj z) (by decide +kernel)) (fun _ => ?_)⟩
      refine ⟨_, rfl, rfl, ?_⟩
      exact useT t.cPut z dx _ l1 [p + 1] [i, j] _ (.non) (.non) false _ sm3 ha3 (shaped_told2 _ i j (by decide +kernel)) hz3 T.st.clPut ⟨flds_no _ _ _ "told" (by decide +kernel), flds_no _ _ _ "nexts" (by decide +kernel), flds_no _ _ _ "sets" (by decide +kernel), flds_no _ _ _ "looks" (by decide +kernel), flds_no _ _ _ "empties" (by decide +kernel)⟩ hl3 T.mPut_told T.st.nPPut (flds_parts _ _ _) ⟨m.fNexts, _, _, _, T.mPut_nexts, ok_Nexts T.fnNexts, T.bNexts, fun Q q => ⟨z, p, rfl, fun l4 n4 => q l4 _ (same_new (Same.refl _) n4) upd_same⟩⟩ ⟨m.fSets0, _, _, _, T.mPut_sets, ok_Sets0 T.fnSets0, T.bSets0, fun H4 Q s4 q => ⟨z, rfl, q⟩⟩ rfl ⟨m.fLooks0, _, _, _, T.mPut_looks, ok_Looks0 T.fnLooks0, T.bLooks0, fun H4 Q s4 q => ⟨z, rfl, q⟩⟩ rfl ⟨m.fEmpt0, _, _, T.mPut_empties, ok_Empt0 T.fnEmpt0, T.bEmpt0⟩
    · rw [clsW_add] at hz2
      refine ⟨_, rfl, rfl, _, rfl, iteD (fun z => absurd (str_inj z) (by decide +kernel)) (fun _ => ?_)⟩
      have ha3 := ha2
      have hz3 := hz2
      have sm3 := sm2
      have hl3 := hl2
      refine ⟨_, rfl, rfl, _, rfl, iteD (fun z => absurd (str_inj z) (by decide +kernel)) (fun _ => ?_)⟩
      refine ⟨_, rfl, rfl, _, rfl, iteD (fun z => absurd (str_inj z) (by decide +kernel)) (fun _ => ?_)⟩
      refine ⟨_, rfl, rfl, _, rfl, iteD (fun z => absurd (str_inj z) (by decide +kernel)) (fun _ => ?_)⟩
      refine ⟨_, rfl, rfl, _, rfl, iteD (fun z => absurd (str_inj z) (by decide +kernel)) (fun _ => ?_)⟩
      refine ⟨_, rfl, rfl, _, rfl, iteD (fun z => absurd (str_inj z) (by decide +kernel)) (fun _ => ?_)⟩
      refine ⟨_, rfl, rfl, ?_⟩
      exact useT t.cAdd z dx _ l1 [p + 1] [i, j] _ (.non) (.non) false _ sm3 ha3 (shaped_told2 _ i j (by decide +kernel)) hz3 T.st.clAdd ⟨flds_no _ _ _ "told" (by decide +kernel), flds_no _ _ _ "nexts" (by decide +kernel), flds_no _ _ _ "sets" (by decide +kernel), flds_no _ _ _ "looks" (by decide +kernel), flds_no _ _ _ "empties" (by decide +kernel)⟩ hl3 T.mAdd_told T.st.nPAdd (flds_parts _ _ _) ⟨m.fNexts, _, _, _, T.mAdd_nexts, ok_Nexts T.fnNexts, T.bNexts, fun Q q => ⟨z, p, rfl, fun l4 n4 => q l4 _ (same_new (Same.refl _) n4) upd_same⟩⟩ ⟨m.fSets0, _, _, _, T.mAdd_sets, ok_Sets0 T.fnSets0, T.bSets0, fun H4 Q s4 q => ⟨z, rfl, q⟩⟩ rfl ⟨m.fLooks0, _, _, _, T.mAdd_looks, ok_Looks0 T.fnLooks0, T.bLooks0, fun H4 Q s4 q => ⟨z, rfl, q⟩⟩ rfl ⟨m.fEmpt0, _, _, T.mAdd_empties, ok_Empt0 T.fnEmpt0, T.bEmpt0⟩
    · rw [clsW_set] at hz2
      refine ⟨_, rfl, rfl, _, rfl, iteD (fun z => absurd (str_inj z) (by decide +kernel)) (fun _ => ?_)⟩
      have ha3 := ha2
      have hz3 := hz2
      have sm3 := sm2
      have hl3 := hl2
      refine ⟨_, rfl, rfl, _, rfl, iteD (fun _ => ?_) (fun z => absurd rfl z)⟩
      refine ⟨_, rfl, a, _, 1, .int i, rfl, rfl, SqT.of ha3, atI_nat (j := 1) rfl, ?_⟩
      refine ⟨_, rfl, rfl, _, rfl, iteD (fun z => absurd (str_inj z) (by decide +kernel)) (fun _ => ?_)⟩
      refine ⟨_, rfl, rfl, _, rfl, iteD (fun z => absurd (str_inj z) (by decide +kernel)) (fun _ => ?_)⟩
      refine ⟨_, rfl, rfl, _, rfl, iteD (fun z => absurd (str_inj z) (by decide +kernel)) (fun _ => ?_)⟩
      refine ⟨_, rfl, rfl, _, rfl, iteD (fun z => absurd (str_inj z) (by decide +kernel)) (fun _ => ?_)⟩
      refine ⟨_, rfl, rfl, ?_⟩
      exact useT t.cSet z dx _ l1 [p + 1] [i, j] _ (.int i) (.non) false _ sm3 ha3 (shaped_told2 _ i j (by decide +kernel)) hz3 T.st.clSet ⟨flds_no _ _ _ "told" (by decide +kernel), flds_no _ _ _ "nexts" (by decide +kernel), flds_no _ _ _ "sets" (by decide +kernel), flds_no _ _ _ "looks" (by decide +kernel), flds_no _ _ _ "empties" (by decide +kernel)⟩ hl3 T.mSet_told T.st.nPSet (flds_parts _ _ _) ⟨m.fNexts, _, _, _, T.mSet_nexts, ok_Nexts T.fnNexts, T.bNexts, fun Q q => ⟨z, p, rfl, fun l4 n4 => q l4 _ (same_new (Same.refl _) n4) upd_same⟩⟩ ⟨m.fSetSets, _, _, _, T.mSet_sets, ok_SetSets T.fnSetSets, T.bSetSets, fun H4 Q s4 q => ⟨z, t.cSet, dx, _, .int i, rfl, s4 _ _ hz3, T.st.clSet, T.st.n1Set, flds_set _ _ _, q⟩⟩ rfl ⟨m.fLooks0, _, _, _, T.mSet_looks, ok_Looks0 T.fnLooks0, T.bLooks0, fun H4 Q s4 q => ⟨z, rfl, q⟩⟩ rfl ⟨m.fEmpt0, _, _, T.mSet_empties, ok_Empt0 T.fnEmpt0, T.bEmpt0⟩
    · rw [clsW_look] at hz2
      refine ⟨_, rfl, rfl, _, rfl, iteD (fun z => absurd (str_inj z) (by decide +kernel)) (fun _ => ?_)⟩
      have ha3 := ha2
      have hz3 := hz2
      have sm3 := sm2
      have hl3 := hl2
      refine ⟨_, rfl, rfl, _, rfl, iteD (fun z => absurd (str_inj z) (by decide +kernel)) (fun _ => ?_)⟩
      refine ⟨_, rfl, rfl, _, rfl, iteD (fun z => absurd (str_inj z) (by decide +kernel)) (fun _ => ?_)⟩
      refine ⟨_, rfl, rfl, _, rfl, iteD (fun _ => iteT ?_) (fun z => absurd rfl z)⟩
      refine ⟨_, rfl, a, _, 2, .int j, rfl, rfl, SqT.of ha3, atI_nat (j := 2) rfl, ?_⟩
      refine ⟨_, rfl, rfl, _, rfl, iteD (fun z => absurd (str_inj z) (by decide +kernel)) (fun _ => ?_)⟩
      refine ⟨_, rfl, rfl, ?_⟩
      exact useT t.cLook z dx _ l1 [p + 1] [i, j] _ (.non) (.int j) false _ sm3 ha3 (shaped_told2 _ i j (by decide +kernel)) hz3 T.st.clLook ⟨flds_no _ _ _ "told" (by decide +kernel), flds_no _ _ _ "nexts" (by decide +kernel), flds_no _ _ _ "sets" (by decide +kernel), flds_no _ _ _ "looks" (by decide +kernel), flds_no _ _ _ "empties" (by decide +kernel)⟩ hl3 T.mLook_told T.st.nPLook (flds_parts _ _ _) ⟨m.fNexts, _, _, _, T.mLook_nexts, ok_Nexts T.fnNexts, T.bNexts, fun Q q => ⟨z, p, rfl, fun l4 n4 => q l4 _ (same_new (Same.refl _) n4) upd_same⟩⟩ ⟨m.fSets0, _, _, _, T.mLook_sets, ok_Sets0 T.fnSets0, T.bSets0, fun H4 Q s4 q => ⟨z, rfl, q⟩⟩ rfl ⟨m.fLookLooks, _, _, _, T.mLook_looks, ok_LookLooks T.fnLookLooks, T.bLookLooks, fun H4 Q s4 q => ⟨z, t.cLook, dx, _, .int j, rfl, s4 _ _ hz3, T.st.clLook, T.st.n2Look, flds_look _ _ _, q⟩⟩ rfl ⟨m.fEmpt0, _, _, T.mLook_empties, ok_Empt0 T.fnEmpt0, T.bEmpt0⟩
    · rw [clsW_swap] at hz2
      refine ⟨_, rfl, rfl, _, rfl, iteD (fun z => absurd (str_inj z) (by decide +kernel)) (fun _ => ?_)⟩
      have ha3 := ha2
      have hz3 := hz2
      have sm3 := sm2
      have hl3 := hl2
      refine ⟨_, rfl, rfl, _, rfl, iteD (fun z => absurd (str_inj z) (by decide +kernel)) (fun _ => ?_)⟩
      refine ⟨_, rfl, rfl, _, rfl, iteD (fun _ => ?_) (fun z => absurd rfl z)⟩
      refine ⟨_, rfl, a, _, 2, .int j, rfl, rfl, SqT.of ha3, atI_nat (j := 2) rfl, ?_⟩
      refine ⟨_, rfl, rfl, _, rfl, iteD (fun z => absurd (str_inj z) (by decide +kernel)) (fun _ => ?_)⟩
      refine ⟨_, rfl, rfl, _, rfl, iteD (fun _ => ?_) (fun z => absurd rfl z)⟩
      refine ⟨_, rfl, a, _, 2, .int j, rfl, rfl, SqT.of ha3, atI_nat (j := 2) rfl, ?_⟩
      refine ⟨_, rfl, rfl, _, rfl, iteD (fun _ => ?_) (fun z => absurd rfl z)⟩
      exact useT t.cSwap z dx _ l1 [p + 1] [i, j] _ (.int j) (.int j) true _ sm3 ha3 (shaped_told2 _ i j (by decide +kernel)) hz3 T.st.clSwap ⟨flds_no _ _ _ "told" (by decide +kernel), flds_no _ _ _ "nexts" (by decide +kernel), flds_no _ _ _ "sets" (by decide +kernel), flds_no _ _ _ "looks" (by decide +kernel), flds_no _ _ _ "empties" (by decide +kernel)⟩ hl3 T.mSwap_told T.st.nPSwap (flds_parts _ _ _) ⟨m.fNexts, _, _, _, T.mSwap_nexts, ok_Nexts T.fnNexts, T.bNexts, fun Q q => ⟨z, p, rfl, fun l4 n4 => q l4 _ (same_new (Same.refl _) n4) upd_same⟩⟩ ⟨m.fSwapSets, _, _, _, T.mSwap_sets, ok_SwapSets T.fnSwapSets, T.bSwapSets, fun H4 Q s4 q => ⟨z, t.cSwap, dx, _, .int j, rfl, s4 _ _ hz3, T.st.clSwap, T.st.n2Swap, flds_swap _ _ _, q⟩⟩ rfl ⟨m.fSwapLooks, _, _, _, T.mSwap_looks, ok_SwapLooks T.fnSwapLooks, T.bSwapLooks, fun H4 Q s4 q => ⟨z, t.cSwap, dx, _, .int j, rfl, s4 _ _ hz3, T.st.clSwap, T.st.n2Swap, flds_swap _ _ _, q⟩⟩ rfl ⟨m.fSwapEmpt, _, _, T.mSwap_empties, ok_SwapEmpt T.fnSwapEmpt, T.bSwapEmpt⟩
    · rw [clsW_skip] at hz2
      refine ⟨_, rfl, rfl, _, rfl, iteD (fun _ => ?_) (fun z => absurd rfl z)⟩
      refine ⟨_, rfl, _, _, rfl, rfl, _, rfl, a, _, 2, .int j, rfl, rfl, SqT.of ha2, atI_nat (j := 2) rfl, by show 2 ≤ sizeLine; decide, fun l0 n0 => ?_⟩
      refine ⟨l0, [p + 1, j], rfl, SqL.of upd_same, by show 2 < 4000; decide, fun b nb => ⟨b, _, rfl, upd_same, Nat.lt_of_le_of_lt (once_len [p + 1, j]) (by show 2 < 64; decide), fun ls zs nls hp hs => ?_⟩⟩
      have s3 : Same H2 (upd (upd (upd H2 l0 (.lst [.int (p + 1), .int j])) b (setO P w b (onceL [p + 1, j]))) ls (.lst (zs.map V.int))) := same_new (same_new (same_new (Same.refl _) n0) nb) nls
      have hl3 : (upd (upd (upd H2 l0 (.lst [.int (p + 1), .int j])) b (setO P w b (onceL [p + 1, j]))) ls (.lst (zs.map V.int))) ls = some (.lst (zs.map V.int)) := upd_same
      generalize (upd (upd (upd H2 l0 (.lst [.int (p + 1), .int j])) b (setO P w b (onceL [p + 1, j]))) ls (.lst (zs.map V.int))) = H3 at s3 hl3
      have ha3 := s3 _ _ ha2
      have hz3 := s3 _ _ hz2
      have sm3 := sm2.trans s3
      refine ⟨_, rfl, rfl, _, rfl, iteD (fun z => absurd (str_inj z) (by decide +kernel)) (fun _ => ?_)⟩
      refine ⟨_, rfl, rfl, _, rfl, iteD (fun z => absurd (str_inj z) (by decide +kernel)) (fun _ => ?_)⟩
      refine ⟨_, rfl, rfl, _, rfl, iteD (fun z => absurd (str_inj z) (by decide +kernel)) (fun _ => ?_)⟩
      refine ⟨_, rfl, rfl, _, rfl, iteD (fun z => absurd (str_inj z) (by decide +kernel)) (fun _ => ?_)⟩
      refine ⟨_, rfl, rfl, _, rfl, iteD (fun z => absurd (str_inj z) (by decide +kernel)) (fun _ => ?_)⟩
      refine ⟨_, rfl, rfl, ?_⟩
      exact useT t.cSkip z dx _ ls zs [i, j] _ (.non) (.non) false _ sm3 ha3 (shaped_told2 _ i j (by decide +kernel)) hz3 T.st.clSkip ⟨flds_no _ _ _ "told" (by decide +kernel), flds_no _ _ _ "nexts" (by decide +kernel), flds_no _ _ _ "sets" (by decide +kernel), flds_no _ _ _ "looks" (by decide +kernel), flds_no _ _ _ "empties" (by decide +kernel)⟩ hl3 T.mSkip_told T.st.nPSkip (flds_parts _ _ _) ⟨m.fSkipNexts, _, _, _, T.mSkip_nexts, ok_SkipNexts T.fnSkipNexts T.sorted T.set, T.bSkipNexts, fun Q q => ⟨z, t.cSkip, dx, _, p, j, rfl, hz3, T.st.clSkip, T.st.n2Skip, flds_skip _ _ _, fun H4 l4 ys s4 n4 h4 hp4 hs4 => q l4 H4 s4 (by rw [h4, sort_eq hp4 hp hs4 hs])⟩⟩ ⟨m.fSets0, _, _, _, T.mSkip_sets, ok_Sets0 T.fnSets0, T.bSets0, fun H4 Q s4 q => ⟨z, rfl, q⟩⟩ rfl ⟨m.fLooks0, _, _, _, T.mSkip_looks, ok_Looks0 T.fnLooks0, T.bLooks0, fun H4 Q s4 q => ⟨z, rfl, q⟩⟩ rfl ⟨m.fEmpt0, _, _, T.mSkip_empties, ok_Empt0 T.fnEmpt0, T.bEmpt0⟩
end
end TL


namespace TL
open PySem PySem.Spec PyProof.Rows PySem.SeqAt L2 L3
/-- a class of errors under TrayError (at cE) -/
structure XFacts (K : PySem.W.Frag) (c cE : Addr) : Prop where
  xc : XC K c
  self : PySem.W.kitCls K (.ref c) (.ref c) = some true
  base : PySem.W.kitCls K (.ref c) (.type "BaseException") = some true
  te : PySem.W.kitOne K (.ref c) (.ref cE) = some true
  ve : PySem.W.kitOne K (.ref c) (.type "ValueError") = some true
theorem boot_VE : bootBuiltins "ValueError" = some (.type "ValueError") := by decide +kernel
section
variable {P : Program} {w : World} {K : PySem.W.Frag} {mg : Str → Option Value} {base : Heap} {t : Adr}
def spRefused : Sp := fun vs H Q _ => ∃ v T, vs = [v] ∧ tyName H v = some T ∧ (∀ xs, viewT H v = some xs → xs.length ≤ 1000 ∧ ∀ x ∈ xs, ∃ T, tyName H x = some T) ∧ isStep H v = false ∧ ∀ H', Same H H' → Q (.bl true) H'
theorem scRefused : FnScope ["_law_told", "_law_good_here", "e"] ["_law_told"] (defScope sRefused) := ⟨rfl, rfl, rfl, by decide +kernel, rfl, by decide +kernel, by decide +kernel⟩
theorem ok_Refused {f cN cE : Addr} {fd : FuncData} (F : Fun K "_law_refused" "_law_refused" sRefused f fd) (T : StepsT K mg t) (xN : XFacts K cN cE) (mX : mg "NoStep" = some (.ref cN)) (mE : mg "TrayError" = some (.ref cE)) (hVE : mg "ValueError" = none) :
    FnOk P w K mg base CX0 5 f fd ["_law_told"] spRefused := by
  have GX : FnOk P w K mg base (CXE P w) 4 t.fO t.fdO ["told"] (spStepX t cN) := ok_stepX T xN.xc mX
  refine F.ok scRefused (fun vs H Q E h => ?_) (fun cdv A outer s H vs Q E hr h => ?_)
  · obtain ⟨v, Ty, rfl, _⟩ := h
    rfl
  · obtain ⟨v, Ty, rfl, ht, hvw, hst, k⟩ := h
    refine ⟨_, pss_cons (ps_set (i := 1) scRefused.nd rfl (Or.inl rfl) pe_bl)
      (pss_cons (ps_tryAs (i := 2) rfl rfl rfl scRefused.nd rfl rfl rfl mX xN.base (fun W pn E hL hp => pss_one (ps_expr (pe_callX GX hr hL rfl T.mO T.fnO.kp T.bO .nil (pa_cons (pv 0) pa_nil))))
        (fun ea pn => pss_one (ps_set (i := 1) scRefused.nd rfl (Or.inl rfl) (pe_and (pe_callB (isiX_K K) rfl T.bl.isi boot_isinstance (pa_cons (pv 2) (pa_cons (pe_glob (v := .ref cE) rfl mE rfl) pa_nil)))
          (pe_one (pe_callB (isiX_K K) rfl T.bl.isi boot_isinstance (pa_cons (pv 2) (pa_cons (pe_bltn (v := .ty "ValueError") rfl hVE boot_VE rfl) pa_nil))))))))
      (pss_one (ps_ret (pv 1)))), ?_⟩
    refine ⟨_, rfl, v, Ty, rfl, ht, hvw, fun a x ps e1 e2 e3 => ?_, fun _ H1 s1 => ⟨xN.self, fun ea hea => ?_⟩⟩
    · exfalso
      subst e1
      have : isStep H (.ref a) = true := by unfold isStep; rw [viewT_of e2]; exact e3
      rw [this] at hst; cases hst
    refine ⟨_, rfl, ea, _, none, .ref cE, _, rfl, upd_same, rfl, xN.te, _, rfl, iteT ?_⟩
    refine ⟨_, rfl, ea, _, none, .ty "ValueError", _, rfl, upd_same, rfl, xN.ve, ?_⟩
    exact ⟨_, rfl, k _ (same_new s1 hea)⟩
/-! ### _law_bounds -/
end
section
variable {X : Cx}
theorem se_con {c : Const} {i : Nat} {p : Pos} {es : List Expr} {env : Env} : starEach (.Constant c i p :: es) env = (false, eval (.Constant c i p) env) :: starEach es env := by rw [starEach]; intro e p h; cases h
theorem se_lst {xs : List Expr} {p : Pos} {es : List Expr} {env : Env} : starEach (.List xs p :: es) env = (false, eval (.List xs p) env) :: starEach es env := by rw [starEach]; intro e p h; cases h
theorem se_tup {xs : List Expr} {i : Nat} {p : Pos} {es : List Expr} {env : Env} : starEach (.Tuple xs i p :: es) env = (false, eval (.Tuple xs i p) env) :: starEach es env := by rw [starEach]; intro e p h; cases h
theorem pa_str {a : Str} {i : Nat} {p : Pos} {es : List Expr} {t : TA} (hr : PA X es t) : PA X (.Constant (.str a) i p :: es) (tCons (tC (.str a)) t) := pa_cons pe_str hr se_con
theorem pa_lstE {xs : List Expr} {p : Pos} {es : List Expr} {te : TE} {t : TA} (ha : PE X (.List xs p) te) (hr : PA X es t) : PA X (.List xs p :: es) (tCons te t) := pa_cons ha hr se_lst
theorem pa_tupE {xs : List Expr} {i : Nat} {p : Pos} {es : List Expr} {te : TE} {t : TA} (ha : PE X (.Tuple xs i p) te) (hr : PA X es t) : PA X (.Tuple xs i p :: es) (tCons te t) := pa_cons ha hr se_tup
/-- ('word', [..]) -/
theorem pe_row {a : Str} {i n : Nat} {p q r : Pos} {xs : List Expr} {te : TE} (h : PE X (.List xs q) te) : PE X (.Tuple [.Constant (.str a) i p, .List xs q] n r) (tTup (tCons (tC (.str a)) (tCons te tNil))) :=
  @pe_tup X _ _ _ _ (@pa_str X _ _ _ _ _ (@pa_lstE X _ _ _ _ _ h pa_nil))
theorem pe_two {i j : Int} {m n : Nat} {p q r : Pos} : PE X (.List [.Constant (.int i) m p, .Constant (.int j) n q] r) (tLst (tCons (tC (.int i)) (tCons (tC (.int j)) tNil))) := pe_lst (pa_cons pe_int (pa_cons pe_int pa_nil))
theorem pe_rows5 {x1 x2 x3 x4 x5 : List Expr} {n1 n2 n3 n4 n5 : Nat} {p1 p2 p3 p4 p5 p : Pos} {t1 t2 t3 t4 t5 : TE} (h1 : PE X (.Tuple x1 n1 p1) t1) (h2 : PE X (.Tuple x2 n2 p2) t2) (h3 : PE X (.Tuple x3 n3 p3) t3) (h4 : PE X (.Tuple x4 n4 p4) t4) (h5 : PE X (.Tuple x5 n5 p5) t5) :
    PE X (.List [.Tuple x1 n1 p1, .Tuple x2 n2 p2, .Tuple x3 n3 p3, .Tuple x4 n4 p4, .Tuple x5 n5 p5] p) (tLst (tCons t1 (tCons t2 (tCons t3 (tCons t4 (tCons t5 tNil)))))) :=
  @pe_lst X _ _ _ (@pa_tupE X _ _ _ _ _ _ h1 (@pa_tupE X _ _ _ _ _ _ h2 (@pa_tupE X _ _ _ _ _ _ h3 (@pa_tupE X _ _ _ _ _ _ h4 (@pa_tupE X _ _ _ _ _ _ h5 pa_nil)))))
theorem pe_rows2 {x1 x2 : List Expr} {n1 n2 : Nat} {p1 p2 p : Pos} {t1 t2 : TE} (h1 : PE X (.Tuple x1 n1 p1) t1) (h2 : PE X (.Tuple x2 n2 p2) t2) : PE X (.List [.Tuple x1 n1 p1, .Tuple x2 n2 p2] p) (tLst (tCons t1 (tCons t2 tNil))) :=
  @pe_lst X _ _ _ (@pa_tupE X _ _ _ _ _ _ h1 (@pa_tupE X _ _ _ _ _ _ h2 pa_nil))
end
def vOf : Stmt → Expr
  | .Assign _ v _ => v
  | .For _ (.BinOp _ _ r _) _ _ _ => r
  | _ => .Constant .none 0 ⟨0, 0, 0, 0⟩
@[irreducible] def eRows : Expr := vOf ((defBody sLBounds).getD 0 (.Pass ⟨0, 0, 0, 0⟩))
@[irreducible] def eMore : Expr := vOf ((defBody sLBounds).getD 1 (.Pass ⟨0, 0, 0, 0⟩))
abbrev tRow (a : Str) (te : TE) : TE := tTup (tCons (tC (.str a)) (tCons te tNil))
abbrev tTwo (i j : Int) : TE := tLst (tCons (tC (.int i)) (tCons (tC (.int j)) tNil))
theorem pe_eRows {X : Cx} : PE X eRows (tLst (tCons (tRow "put" (tLst (tCons (tC (.int 4)) (tCons (tOp (rI CPow fun i j => .int (i ^ j.toNat)) (tC (.int 10)) (tC (.int 60))) tNil)))) (tCons (tRow "add" (tTwo 4 4)) (tCons (tRow "set" (tTwo 12 4)) (tCons (tRow "look" (tTwo 4 12)) (tCons (tRow "swap" (tTwo 4 12)) tNil)))))) := by
  unfold eRows
  exact @pe_rows5 X _ _ _ _ _ _ _ _ _ _ _ _ _ _ _ _ _ _ _ _ _ (@pe_row X _ _ _ _ _ _ _ _ (@pe_lst X _ _ _ (@pa_cons X _ _ _ _ (@pe_int X _ _ _) (@pa_cons X _ _ _ _ (@pe_op X _ _ _ _ _ _ _ op_pow pe_int pe_int) pa_nil rfl) rfl))) (@pe_row X _ _ _ _ _ _ _ _ pe_two) (@pe_row X _ _ _ _ _ _ _ _ pe_two) (@pe_row X _ _ _ _ _ _ _ _ pe_two) (@pe_row X _ _ _ _ _ _ _ _ pe_two)
theorem pe_eMore {X : Cx} : PE X eMore (tLst (tCons (tRow "clear" (tLst tNil)) (tCons (tRow "skip" (tTwo 4 121)) tNil))) := by
  unfold eMore
  exact @pe_rows2 X _ _ _ _ _ _ _ _ _ (@pe_row X _ _ _ _ _ _ _ _ (@pe_lst X _ _ _ pa_nil)) (@pe_row X _ _ _ _ _ _ _ _ pe_two)
end TL


namespace TL
open PySem PySem.Spec PyProof.Rows PySem.SeqAt L2 L3
def forT : Stmt → Expr
  | .For t _ _ _ _ => t
  | _ => .Constant .none 0 ⟨0, 0, 0, 0⟩
def forB : Stmt → List Stmt
  | .For _ _ b _ _ => b
  | _ => []
theorem bodyB : ∃ p1 p2 p3 p4 p5, defBody sLBounds = [.Assign [.Name "_law_rows" p1] eRows p2, .For (forT ((defBody sLBounds).getD 1 (.Pass ⟨0, 0, 0, 0⟩))) (.BinOp (.Name "_law_rows" p3) .Add eMore p4) (forB ((defBody sLBounds).getD 1 (.Pass ⟨0, 0, 0, 0⟩))) [] p5, (defBody sLBounds).getD 2 (.Pass ⟨0, 0, 0, 0⟩)] := by
  unfold eRows eMore
  exact ⟨_, _, _, _, _, rfl⟩
theorem sw_eRows {x : Str} {p : Pos} {n : Nat} {env : Env} : swapsWith eRows (some (.Name x p)) n env = pure false := by unfold eRows; rfl
def rowsM : List (Str × List Int) := [("put", [4, 10 ^ 60]), ("add", [4, 4]), ("set", [12, 4]), ("look", [4, 12]), ("swap", [4, 12]), ("clear", []), ("skip", [4, 121])]
theorem rows_bo : ∀ e ∈ rowsM, boundsM e.1 = some e.2 := by
  intro e he
  simp only [rowsM, List.mem_cons, List.mem_nil_iff, or_false] at he
  rcases he with rfl | rfl | rfl | rfl | rfl | rfl | rfl
  · exact bo_put
  · exact bo_add
  · exact bo_set
  · exact bo_look
  · exact bo_swap
  · exact bo_clear
  · exact bo_skip
theorem rows_no {x : Str} {bs : List Int} (h : boundsM x = some bs) : ∃ e ∈ rowsM, e.1 = x := by
  refine Classical.byContradiction fun z => ?_
  have n : ∀ e ∈ rowsM, ¬ x = e.1 := fun e he y => z ⟨e, he, y.symm⟩
  simp only [rowsM, List.forall_mem_cons, List.not_mem_nil, false_implies, implies_true, and_true] at n
  obtain ⟨n1, n2, n3, n4, n5, n6, n7⟩ := n
  unfold boundsM at h
  rw [if_neg n1, if_neg n2, if_neg n3, if_neg n4, if_neg n5, if_neg n6, if_neg n7] at h
  cases h
def RowB (H0 H : Hp) (v : V) (e : Str × List Int) : Prop := ∃ p l, v = .ref p ∧ H p = some (.tup [.str e.1, .ref l]) ∧ H l = some (.lst (e.2.map V.int)) ∧ H0 l = none
theorem RowB.same {H0 H H' : Hp} {v : V} {e : Str × List Int} (h : RowB H0 H v e) (s : Same H H') : RowB H0 H' v e := let ⟨p, l, e1, e2, e3, e4⟩ := h; ⟨p, l, e1, s _ _ e2, s _ _ e3, e4⟩
theorem pairedS {H0 H H' : Hp} : ∀ {us : List V} {es : List (Str × List Int)}, Paired (RowB H0 H) us es → Same H H' → Paired (RowB H0 H') us es
  | _, _, .nil, _ => .nil
  | _, _, .cons h t, s => .cons (h.same s) (pairedS t s)
theorem paired_appB {H0 H : Hp} : ∀ {us : List V} {es : List (Str × List Int)} {v : V} {e : Str × List Int}, Paired (RowB H0 H) us es → RowB H0 H v e → Paired (RowB H0 H) (us ++ [v]) (es ++ [e])
  | _, _, _, _, .nil, h => .cons h .nil
  | _, _, _, _, .cons a t, h => .cons a (paired_appB t h)
/-- one more row laid -/
theorem row_new {H0 H : Hp} {us : List V} {es : List (Str × List Int)} {l p : Addr} {wd : Str} {bs : List Int} (s : Same H0 H) (r : Paired (RowB H0 H) us es) (n1 : H l = none) (n2 : upd H l (.lst (bs.map V.int)) p = none) :
    Same H0 (upd (upd H l (.lst (bs.map V.int))) p (.tup [.str wd, .ref l])) ∧ Same H (upd (upd H l (.lst (bs.map V.int))) p (.tup [.str wd, .ref l])) ∧ Paired (RowB H0 (upd (upd H l (.lst (bs.map V.int))) p (.tup [.str wd, .ref l]))) (us ++ [.ref p]) (es ++ [(wd, bs)]) := by
  have s1 : Same H (upd H l (.lst (bs.map V.int))) := same_new (Same.refl _) n1
  have s2 : Same (upd H l (.lst (bs.map V.int))) (upd (upd H l (.lst (bs.map V.int))) p (.tup [.str wd, .ref l])) := same_new (Same.refl _) n2
  exact ⟨s.trans (s1.trans s2), s1.trans s2, paired_appB (pairedS r (s1.trans s2)) ⟨p, l, rfl, upd_same, s2 _ _ upd_same, s.free n1⟩⟩
theorem paired_get' {α β : Type} {F : α → β → Prop} : ∀ {l : List α} {r : List β} {i : Nat} {x : α}, Paired F l r → l[i]? = some x → ∃ y, r[i]? = some y ∧ F x y
  | _, _, _, _, .nil, e => by simp at e
  | _, _, 0, _, .cons h _, e => by simp at e; subst e; exact ⟨_, rfl, h⟩
  | _, _, i + 1, x, .cons _ t, e => by
    obtain ⟨y, h1, h2⟩ := paired_get' (i := i) t (by simpa using e)
    exact ⟨y, by simpa using h1, h2⟩
section
variable {P : Program} {w : World} {K : PySem.W.Frag} {mg : Str → Option Value} {base : Heap}
def spLB : Sp := fun vs H Q _ => ∃ x bs, vs = [.str x] ∧ boundsM x = some bs ∧ ∀ l H', Same H H' → H l = none → H' l = some (.lst (bs.map V.int)) → Q (.ref l) H'
theorem scLB : FnScope ["_law_word", "_law_rows", "_law_one", "_law_bounds_here"] ["_law_word"] (defScope sLBounds) := ⟨rfl, rfl, rfl, by decide +kernel, rfl, by decide +kernel, by decide +kernel⟩
theorem ok_LB {f : Addr} {fd : FuncData} (F : Fun K "_law_bounds" "_law_bounds" sLBounds f fd) : FnOk P w K mg base CX0 1 f fd ["_law_word"] spLB := by
  refine F.ok scLB (fun vs H Q E h => ?_) (fun cdv A outer s H vs Q E hr h => ?_)
  · obtain ⟨x, bs, rfl, _⟩ := h
    rfl
  · obtain ⟨x, bs, rfl, hb, k⟩ := h
    obtain ⟨p1, p2, p3, p4, p5, eb⟩ := bodyB
    rw [eb]
    refine ⟨_, pss_cons (ps_set (i := 1) scLB.nd rfl (Or.inl rfl) pe_eRows sw_eRows)
      (pss_cons (ps_for PassesOwn.never rfl (pi_list (pe_op op_cat (pv 1) pe_eMore)) (pg_tup rfl (pgs_cons (pg_name (i := 2) scLB.nd rfl (Or.inl rfl)) (pgs_cons (pg_name (i := 3) scLB.nd rfl (Or.inl rfl)) pgs_nil)))
        (pss_one (ps_if (pt_cmpR op_eq (pv 2) (pv 0) (nomark _)) (pss_one (ps_ret (pv 3))) pss_nil)))
      (pss_one (ps_ret (pe_lst pa_nil)))), ?_⟩
    have two : 2 ≤ sizeLine := by decide
    refine ⟨_, _, rfl, rfl, ⟨by decide, by decide, by decide⟩, two, fun l1 n1 => ⟨two, fun t1 m1 => ?_⟩⟩
    obtain ⟨s1, _, r1⟩ := row_new (wd := "put") (bs := [4, 10 ^ 60]) (Same.refl H) (.nil : Paired (RowB H H) [] []) n1 m1
    refine ⟨two, fun l2 n2 => ⟨two, fun t2 m2 => ?_⟩⟩
    obtain ⟨s2, _, r2⟩ := row_new (wd := "add") (bs := [4, 4]) s1 r1 n2 m2
    refine ⟨two, fun l3 n3 => ⟨two, fun t3 m3 => ?_⟩⟩
    obtain ⟨s3, _, r3⟩ := row_new (wd := "set") (bs := [12, 4]) s2 r2 n3 m3
    refine ⟨two, fun l4 n4 => ⟨two, fun t4 m4 => ?_⟩⟩
    obtain ⟨s4, _, r4⟩ := row_new (wd := "look") (bs := [4, 12]) s3 r3 n4 m4
    refine ⟨two, fun l5 n5 => ⟨two, fun t5 m5 => ?_⟩⟩
    obtain ⟨s5, _, r5⟩ := row_new (wd := "swap") (bs := [4, 12]) s4 r4 n5 m5
    refine ⟨by show 5 ≤ sizeLine; decide, fun L nL => ?_⟩
    have sa := same_new (o := .lst [.ref t1, .ref t2, .ref t3, .ref t4, .ref t5]) (Same.refl _) nL
    refine ⟨_, rfl, by decide, fun l6 n6 => ⟨two, fun t6 m6 => ?_⟩⟩
    obtain ⟨s6, q6, r6⟩ := row_new (wd := "clear") (bs := []) (s5.trans sa) (pairedS r5 sa) n6 m6
    refine ⟨two, fun l7 n7 => ⟨two, fun t7 m7 => ?_⟩⟩
    obtain ⟨s7, q7, r7⟩ := row_new (wd := "skip") (bs := [4, 121]) s6 r6 n7 m7
    refine ⟨two, fun L2 nL2 => ?_⟩
    have sb := same_new (o := .lst [.ref t6, .ref t7]) (Same.refl _) nL2
    refine ⟨L, L2, _, _, rfl, rfl, sb _ _ (q7 _ _ (q6 _ _ upd_same)), upd_same, by show 5 + 2 ≤ sizeLine; decide, fun L3 nL3 => ?_⟩
    have sc := same_new (o := .lst ([.ref t1, .ref t2, .ref t3, .ref t4, .ref t5] ++ [.ref t6, .ref t7])) (Same.refl _) nL3
    have s9 := (s7.trans sb).trans sc
    have r9 := pairedS r7 (sb.trans sc)
    refine ⟨L3, rfl, ⟨_, SqL.of upd_same⟩, ?_⟩
    refine for_list (xs := [.ref t1, .ref t2, .ref t3, .ref t4, .ref t5, .ref t6, .ref t7]) (fun i σ H' => (Same H H' ∧ H' L3 = some (.lst [.ref t1, .ref t2, .ref t3, .ref t4, .ref t5, .ref t6, .ref t7]) ∧ Paired (RowB H H') [.ref t1, .ref t2, .ref t3, .ref t4, .ref t5, .ref t6, .ref t7] rowsM) ∧ (∃ o b, σ = [some (.str x), some (.ref L), o, b]) ∧ ∀ j e, j < i → rowsM[j]? = some e → e.1 ≠ x)
      ⟨⟨s9, upd_same, r9⟩, ⟨none, none, rfl⟩, fun j e hj => absurd hj (Nat.not_lt_zero _)⟩ ?_ ?_ ?_
    · rintro i σ H' _ ⟨⟨_, h, _⟩, _⟩
      exact SqL.of h
    · rintro i v σ H' hv ⟨⟨sm, hl, rp⟩, ⟨o, b, rfl⟩, hno⟩
      obtain ⟨e, he, p, l, rfl, h1, h2, h3⟩ := paired_get' rp hv
      refine ⟨p, _, rfl, SqT.of h1, rfl, _, _, rfl, _, _, rfl, rfl, ?_⟩
      refine ⟨_, rfl, _, rfl, rfl, _, rfl, iteD (fun z => ?_) (fun z => ?_)⟩
      · have ex : e.1 = x := str_inj z
        have eb2 := rows_bo e (List.mem_of_getElem? he)
        rw [ex, hb] at eb2
        injection eb2 with eb2
        subst eb2
        exact ⟨_, rfl, k l H' sm h3 h2⟩
      · refine ⟨⟨sm, hl, rp⟩, ⟨_, _, rfl⟩, fun j e' hj he' => ?_⟩
        by_cases zj : j = i
        · subst zj
          rw [he] at he'
          injection he' with q1
          subst q1
          exact fun y => z (by rw [y])
        · exact hno j e' (by omega) he'
    · rintro σ H' ⟨_, _, hno⟩
      obtain ⟨e, he, ee⟩ := rows_no hb
      obtain ⟨j, hj, ej⟩ := List.getElem_of_mem he
      exact absurd ee (hno j e hj (by rw [← ej]; exact List.getElem?_eq_getElem hj))
end
end TL


namespace TL
open PySem PySem.Spec PyProof.Rows PySem.SeqAt L2 L3
/-! ### _law_spoilt: what it hands out is no step -/
def BadV (H : Hp) (v : V) : Prop := (∃ T, tyName H v = some T) ∧ (∀ xs, viewT H v = some xs → xs.length ≤ 1000 ∧ ∀ x ∈ xs, ∃ T, tyName H x = some T) ∧ isStep H v = false
theorem ty_same {H H' : Hp} {v : V} {T : String} (s : Same H H') (h : tyName H v = some T) : tyName H' v = some T := by
  cases v with
  | ref a =>
    unfold tyName at h ⊢
    dsimp only at h ⊢
    cases e : H a with
    | none => simp [e] at h
    | some o => rw [e] at h; rw [s a o e]; exact h
  | _ => exact h
theorem view_same {H H' : Hp} {v : V} {T : String} (s : Same H H') (h : tyName H v = some T) : viewT H' v = viewT H v := by
  cases v with
  | ref a =>
    unfold tyName at h
    unfold viewT
    dsimp only at h ⊢
    cases e : H a with
    | none => simp [e] at h
    | some o => rw [s a o e]
  | _ => rfl
theorem BadV.same {H H' : Hp} {v : V} (h : BadV H v) (s : Same H H') : BadV H' v := by
  obtain ⟨⟨T, ht⟩, hv, hs⟩ := h
  have e := view_same s ht
  refine ⟨⟨T, ty_same s ht⟩, fun xs hx => ?_, ?_⟩
  · rw [e] at hx
    obtain ⟨h1, h2⟩ := hv xs hx
    exact ⟨h1, fun x hm => let ⟨T, q⟩ := h2 x hm; ⟨T, ty_same s q⟩⟩
  · unfold isStep at hs ⊢
    rw [e]; exact hs
theorem bad_tup {H : Hp} {p : Addr} {xs : List V} (h : H p = some (.tup xs)) (hl : xs.length ≤ 1000) (ht : ∀ x ∈ xs, ∃ T, tyName H x = some T) (hs : stepOk xs = false) : BadV H (.ref p) := by
  refine ⟨⟨_, tyName_tup h⟩, fun ys hy => ?_, ?_⟩
  · rw [viewT_of h] at hy; cases hy; exact ⟨hl, ht⟩
  · unfold isStep; rw [viewT_of h]; exact hs
theorem bad_lst {H : Hp} {p : Addr} {xs : List V} (h : H p = some (.lst xs)) : BadV H (.ref p) := by
  have e : viewT H (.ref p) = none := by unfold viewT; simp only [h]
  refine ⟨⟨"list", by unfold tyName; simp only [h]⟩, fun ys hy => ?_, ?_⟩
  · rw [e] at hy; cases hy
  · unfold isStep; rw [e]
theorem bad_str {H : Hp} {x : Str} : BadV H (.str x) := ⟨⟨_, rfl⟩, fun ys hy => (by cases hy), rfl⟩
theorem bad_non {H : Hp} : BadV H .non := ⟨⟨_, rfl⟩, fun ys hy => (by cases hy), rfl⟩
def BadT (t : TE) (σ : L2.St) (H0 : Hp) : Prop := ∀ H, Same H0 H → ∀ Q : VK, (∀ v H', Same H H' → BadV H' v → Q v H') → t σ H Q
def BadA (t : TA) (n : Nat) (σ : L2.St) (H0 : Hp) : Prop := ∀ H, Same H0 H → ∀ Q : List V → Hp → Prop, (∀ vs H', Same H H' → vs.length = n → (∀ v ∈ vs, BadV H' v) → Q vs H') → t σ H Q
theorem BadA.nil {σ : L2.St} {H0 : Hp} : BadA tNil 0 σ H0 := fun H _ Q q => q [] H (Same.refl _) rfl fun v hv => nomatch hv
theorem BadA.cons {te : TE} {t : TA} {n : Nat} {σ : L2.St} {H0 : Hp} (h : BadT te σ H0) (r : BadA t n σ H0) : BadA (tCons te t) (n + 1) σ H0 := fun H s Q q =>
  h H s _ fun v H1 s1 b => r H1 (s.trans s1) _ fun vs H2 s2 hl hb => q (v :: vs) H2 (s1.trans s2) (by rw [List.length_cons, hl]) fun u hu => by
    rcases List.mem_cons.mp hu with rfl | hu
    · exact b.same s2
    · exact hb u hu
/-- what is known of a step's tuple -/
structure ToldAt (H : Hp) (a : Addr) (x : Str) (ns : List Int) : Prop where
  at_ : H a = some (.tup (.str x :: ns.map V.int))
  bo : ∃ bs, boundsM x = some bs ∧ bs.length = ns.length
  le : ns.length ≤ 2
  n1 : ns.length ≠ 1
theorem ToldAt.same {H H' : Hp} {a : Addr} {x : Str} {ns : List Int} (h : ToldAt H a x ns) (s : Same H H') : ToldAt H' a x ns := ⟨s _ _ h.at_, h.bo, h.le, h.n1⟩
theorem step_no {x : Str} {bs : List Int} {ps : List V} (h : boundsM x = some bs) (hl : ps.length ≠ bs.length) : stepOk (.str x :: ps) = false := by
  show (match boundsM x with | none => false | some bs => decide (ps.length = bs.length) && (ps.zip bs).all fun p => wIn p.1 p.2) = false
  rw [h]
  simp only [decide_eq_false hl, Bool.false_and]
theorem step_un {x : Str} {ps : List V} (h : boundsM x = none) : stepOk (.str x :: ps) = false := by
  show (match boundsM x with | none => false | some bs => decide (ps.length = bs.length) && (ps.zip bs).all fun p => wIn p.1 p.2) = false
  rw [h]
theorem ty_ints {H : Hp} {ns : List Int} : ∀ v ∈ ns.map V.int, ∃ T, tyName H v = some T := fun v hv => by
  obtain ⟨n, _, rfl⟩ := List.mem_map.mp hv
  exact ⟨_, rfl⟩
theorem ty_cons {H : Hp} {v : V} {xs : List V} (h : ∃ T, tyName H v = some T) (r : ∀ v ∈ xs, ∃ T, tyName H v = some T) : ∀ u ∈ v :: xs, ∃ T, tyName H u = some T := fun u hu => by
  rcases List.mem_cons.mp hu with rfl | hu
  · exact h
  · exact r u hu
theorem ty_app {H : Hp} {xs ys : List V} (h : ∀ v ∈ xs, ∃ T, tyName H v = some T) (r : ∀ v ∈ ys, ∃ T, tyName H v = some T) : ∀ u ∈ xs ++ ys, ∃ T, tyName H u = some T := fun u hu => by
  rcases List.mem_append.mp hu with hu | hu
  · exact h u hu
  · exact r u hu
theorem ty_nil {H : Hp} : ∀ v ∈ ([] : List V), ∃ T, tyName H v = some T := fun v hv => nomatch hv
theorem stepOk_ints : ∀ ns : List Int, stepOk (ns.map V.int) = false
  | [] => rfl
  | _ :: _ => rfl
section
variable {K : PySem.W.Frag} {σ : L2.St} {H0 : Hp} {a : Addr} {x : Str} {ns : List Int}
/-- told[1:] -/
theorem tail_sl {H : Hp} {Q : VK} (hT : ToldAt H a x ns) (hσ : σ[0]? = some (some (.ref a))) (q : ∀ p H', Same H H' → H' p = some (.tup (ns.map V.int)) → Q (.ref p) H') : tSl (rSlT2 K) (tVar 0) (tPart (tC (.int 1))) tNoPart σ H Q := by
  refine ⟨_, hσ, 1, rfl, a, _, rfl, SqT.of hT.at_, fun z => ?_, fun _ p np => ?_⟩
  · have := z.1
    rw [sIx1] at this
    cases this
  · rw [cut1]
    exact q p _ (same_new (Same.refl _) np) upd_same
theorem b_add0 (hT : ToldAt H0 a x ns) (hσ : σ[0]? = some (some (.ref a))) : BadT (tOp (rCatT K) (tVar 0) (tTup (tCons (tC (.int 0)) tNil))) σ H0 := fun H s Q q => by
  have hT1 := hT.same s
  obtain ⟨bs, hb, hl⟩ := hT.bo
  have le := hT.le
  refine ⟨_, hσ, by show 1 ≤ sizeLine; decide, fun p np => ?_⟩
  have s1 : Same H (upd H p (.tup [.int 0])) := same_new (Same.refl _) np
  refine ⟨a, p, _, _, rfl, rfl, SqT.of (s1 _ _ hT1.at_), SqT.of upd_same, by simp, by rw [sizeLine_eq]; simp; omega, fun z => (by cases z), fun _ r nr => ?_⟩
  refine q _ _ (same_new s1 nr) (bad_tup upd_same (by simp; omega) (ty_cons ⟨_, rfl⟩ (ty_app ty_ints (ty_cons ⟨_, rfl⟩ ty_nil))) (step_no hb (by simp; omega)))
theorem b_tail (hT : ToldAt H0 a x ns) (hσ : σ[0]? = some (some (.ref a))) : BadT (tSl (rSlT2 K) (tVar 0) (tPart (tC (.int 1))) tNoPart) σ H0 := fun H s Q q => by
  have le := hT.le
  exact tail_sl (hT.same s) hσ fun p H' s' h => q _ _ s' (bad_tup h (by simp; omega) ty_ints (stepOk_ints ns))
theorem b_list (hT : ToldAt H0 a x ns) (hσ : σ[0]? = some (some (.ref a))) : BadT (tCB (fun xs H Q => ∃ p ys, xs = [.ref p] ∧ (SqL K H p ys ∨ SqT K H p ys) ∧ ∀ l, H l = none → Q (.ref l) (upd H l (.lst ys))) (tCons (tVar 0) tNil)) σ H0 := fun H s Q q =>
  ⟨_, hσ, a, _, rfl, .inr (SqT.of (hT.same s).at_), fun l nl => q _ _ (same_new (Same.refl _) nl) (bad_lst upd_same)⟩
theorem b_do (hT : ToldAt H0 a x ns) (hσ : σ[0]? = some (some (.ref a))) : BadT (tOp (rCatT K) (tTup (tCons (tC (.str "do")) tNil)) (tSl (rSlT2 K) (tVar 0) (tPart (tC (.int 1))) tNoPart)) σ H0 := fun H s Q q => by
  have le := hT.le
  have bd : boundsM "do" = none := by decide +kernel
  refine ⟨by show 1 ≤ sizeLine; decide, fun p np => ?_⟩
  have s1 : Same H (upd H p (.tup [.str "do"])) := same_new (Same.refl _) np
  refine tail_sl (hT.same (s.trans s1)) hσ fun r H2 s2 hr => ?_
  have hp2 := s2 _ _ (upd_same (H := H) (a := p) (o := .tup [.str "do"]))
  refine ⟨p, r, _, _, rfl, rfl, SqT.of hp2, SqT.of hr, by simp, by rw [sizeLine_eq]; simp; omega, fun z => ?_, fun _ y ny => ?_⟩
  · exact q _ _ (s1.trans s2) (bad_tup hp2 (by simp) (ty_cons ⟨_, rfl⟩ ty_nil) (step_un bd))
  · exact q _ _ (same_new (s1.trans s2) ny) (bad_tup upd_same (by simp; omega) (ty_cons ⟨_, rfl⟩ ty_ints) (step_un bd))
theorem b_nil : BadT (tTup tNil) σ H0 := fun H s Q q => ⟨by decide, fun p np => q _ _ (same_new (Same.refl _) np) (bad_tup upd_same (by simp) ty_nil rfl)⟩
theorem b_word : BadT (tTup (tCons (tC (.str "")) tNil)) σ H0 := fun H s Q q => ⟨by show 1 ≤ sizeLine; decide, fun p np => q _ _ (same_new (Same.refl _) np) (bad_tup upd_same (by simp) (ty_cons ⟨_, rfl⟩ ty_nil) (step_un (by decide +kernel)))⟩
theorem b_told0 (hT : ToldAt H0 a x ns) (hσ : σ[0]? = some (some (.ref a))) : BadT (tOp (rIxT K) (tVar 0) (tC (.int 0))) σ H0 := fun H s Q q => ⟨_, hσ, a, _, 0, .str x, rfl, rfl, SqT.of (hT.same s).at_, atI_nat (j := 0) rfl, q _ _ (Same.refl _) bad_str⟩
theorem b_non : BadT (tC .non) σ H0 := fun H s Q q => q _ _ (Same.refl _) bad_non
theorem b_one (hT : ToldAt H0 a x ns) (hσ : σ[0]? = some (some (.ref a))) : BadT (tTup (tCons (tVar 0) tNil)) σ H0 := fun H s Q q => by
  have h1 := (hT.same s).at_
  refine ⟨_, hσ, by show 1 ≤ sizeLine; decide, fun p np => ?_⟩
  have s1 : Same H (upd H p (.tup [.ref a])) := same_new (Same.refl _) np
  exact q _ _ s1 (bad_tup upd_same (by simp) (ty_cons ⟨_, tyName_tup (s1 _ _ h1)⟩ ty_nil) rfl)
end
end TL


namespace TL
open PySem PySem.Spec PyProof.Rows PySem.SeqAt L2 L3
theorem cutA (us : List V) (i : Nat) : cutV us none (some (i : Int)) = us.take i := by
  unfold cutV
  rw [HT.sIx_nat, HT.sIx_none, List.drop_zero, Nat.sub_zero]
  rcases Nat.le_total i us.length with h | h
  · rw [Nat.min_eq_left h]
  · rw [Nat.min_eq_right h, List.take_length, List.take_of_length_le h]
section
variable {K : PySem.W.Frag} {σ : L2.St} {H0 : Hp} {a : Addr} {x : Str} {ns : List Int}
abbrev rLen (K : PySem.W.Frag) : List V → Hp → VK → Prop := fun xs H Q => ∃ p ys, xs = [.ref p] ∧ (SqL K H p ys ∨ SqT K H p ys) ∧ Q (.int ys.length) H
theorem b_init (hT : ToldAt H0 a x ns) (hσ : σ[0]? = some (some (.ref a))) : BadT (tSl (rSlT2 K) (tVar 0) tNoPart (tPart (tOp (rI0 fun i j => .int (i - j)) (tCB (rLen K) (tCons (tVar 0) tNil)) (tC (.int 1))))) σ H0 := fun H s Q q => by
  have hT1 := hT.same s
  obtain ⟨bs, hb, hl⟩ := hT.bo
  have le := hT.le
  have el : (((V.str x :: ns.map V.int).length : Nat) : Int) - 1 = ((ns.length : Nat) : Int) := by simp
  refine ⟨_, hσ, _, hσ, a, _, rfl, .inr (SqT.of hT1.at_), _, _, rfl, rfl, _, rfl, a, _, rfl, SqT.of hT1.at_, ?_⟩
  rw [el]
  refine ⟨fun z => ?_, fun _ p np => ?_⟩
  · have := z.2
    rw [HT.sIx_nat] at this
    simp at this
  · rw [cutA]
    refine q _ _ (same_new (Same.refl _) np) (bad_tup upd_same (by simp; omega) ?_ ?_)
    · intro u hu
      exact ty_cons ⟨_, rfl⟩ ty_ints u (List.mem_of_mem_take hu)
    · cases ns with
      | nil => rfl
      | cons n r =>
        show stepOk (.str x :: ((n :: r).map V.int).take r.length) = false
        exact step_no hb (by rw [hl]; simp)
theorem b_lst (hT : ToldAt H0 a x ns) (hσ : σ[0]? = some (some (.ref a))) : BadT (tOp (rCatT K) (tTup (tCons (tLst tNil) tNil)) (tSl (rSlT2 K) (tVar 0) (tPart (tC (.int 1))) tNoPart)) σ H0 := fun H s Q q => by
  have le := hT.le
  refine ⟨by decide, fun l nl => ⟨by show 1 ≤ sizeLine; decide, fun p np => ?_⟩⟩
  have s0 : Same H (upd H l (.lst [])) := same_new (Same.refl _) nl
  have s1 : Same (upd H l (.lst [])) (upd (upd H l (.lst [])) p (.tup [.ref l])) := same_new (Same.refl _) np
  have hl1 := s1 _ _ (upd_same (H := H) (a := l) (o := .lst []))
  have hp1 : (upd (upd H l (.lst [])) p (.tup [.ref l])) p = some (.tup [.ref l]) := upd_same
  refine tail_sl (hT.same (s.trans (s0.trans s1))) hσ fun r H2 s2 hr => ?_
  have hp2 := s2 _ _ hp1
  have hl2 := s2 _ _ hl1
  have tl : ∃ T, tyName H2 (.ref l) = some T := ⟨"list", by unfold tyName; simp only [hl2]⟩
  refine ⟨p, r, _, _, rfl, rfl, SqT.of hp2, SqT.of hr, by simp, by rw [sizeLine_eq]; simp; omega, fun z => ?_, fun _ y ny => ?_⟩
  · exact q _ _ ((s0.trans s1).trans s2) (bad_tup hp2 (by simp) (ty_cons tl ty_nil) rfl)
  · have s3 := same_new (o := .tup ([.ref l] ++ ns.map V.int)) (Same.refl H2) ny
    exact q _ _ ((s0.trans s1).trans (s2.trans s3)) (bad_tup upd_same (by simp; omega) (ty_cons (let ⟨T, e⟩ := tl; ⟨T, ty_same s3 e⟩) ty_ints) rfl)
theorem b_lst1 (hT : ToldAt H0 a x ns) (hσ : σ[0]? = some (some (.ref a))) : BadT (tOp (rCatT K) (tTup (tCons (tLst (tCons (tOp (rIxT K) (tVar 0) (tC (.int 0))) tNil)) tNil)) (tSl (rSlT2 K) (tVar 0) (tPart (tC (.int 1))) tNoPart)) σ H0 := fun H s Q q => by
  have le := hT.le
  refine ⟨_, hσ, a, _, 0, .str x, rfl, rfl, SqT.of (hT.same s).at_, atI_nat (j := 0) rfl, by show 1 ≤ sizeLine; decide, fun l nl => ⟨by show 1 ≤ sizeLine; decide, fun p np => ?_⟩⟩
  have s0 : Same H (upd H l (.lst [.str x])) := same_new (Same.refl _) nl
  have s1 : Same (upd H l (.lst [.str x])) (upd (upd H l (.lst [.str x])) p (.tup [.ref l])) := same_new (Same.refl _) np
  have hl1 := s1 _ _ (upd_same (H := H) (a := l) (o := .lst [.str x]))
  have hp1 : (upd (upd H l (.lst [.str x])) p (.tup [.ref l])) p = some (.tup [.ref l]) := upd_same
  refine tail_sl (hT.same (s.trans (s0.trans s1))) hσ fun r H2 s2 hr => ?_
  have hp2 := s2 _ _ hp1
  have hl2 := s2 _ _ hl1
  have tl : ∃ T, tyName H2 (.ref l) = some T := ⟨"list", by unfold tyName; simp only [hl2]⟩
  refine ⟨p, r, _, _, rfl, rfl, SqT.of hp2, SqT.of hr, by simp, by rw [sizeLine_eq]; simp; omega, fun z => ?_, fun _ y ny => ?_⟩
  · exact q _ _ ((s0.trans s1).trans s2) (bad_tup hp2 (by simp) (ty_cons tl ty_nil) rfl)
  · have s3 := same_new (o := .tup ([.ref l] ++ ns.map V.int)) (Same.refl H2) ny
    exact q _ _ ((s0.trans s1).trans (s2.trans s3)) (bad_tup upd_same (by simp; omega) (ty_cons (let ⟨T, e⟩ := tl; ⟨T, ty_same s3 e⟩) ty_ints) rfl)
/-- told[:1] -/
theorem head_sl {H : Hp} {Q : VK} (hT : ToldAt H a x ns) (hσ : σ[0]? = some (some (.ref a))) (q : ∀ p H', Same H H' → H' p = some (.tup [.str x]) → Q (.ref p) H') : tSl (rSlT2 K) (tVar 0) tNoPart (tPart (tC (.int 1))) σ H Q := by
  refine ⟨_, hσ, 1, rfl, a, _, rfl, SqT.of hT.at_, fun z => ?_, fun _ p np => ?_⟩
  · have h := z.2
    have e1 : HT.sIx (V.str x :: ns.map V.int).length (V.str x :: ns.map V.int).length (some 1) = min 1 (V.str x :: ns.map V.int).length := HT.sIx_nat _ _ 1
    rw [e1] at h
    have : ns = [] := by
      cases ns with
      | nil => rfl
      | cons n r => simp at h
    subst this
    exact q a H (Same.refl _) hT.at_
  · have e := cutA (V.str x :: ns.map V.int) 1
    have e2 : cutV (V.str x :: ns.map V.int) none (some 1) = [.str x] := e
    rw [e2]
    exact q p _ (same_new (Same.refl _) np) upd_same
theorem b_rep (hT : ToldAt H0 a x ns) (hσ : σ[0]? = some (some (.ref a))) : BadT (tOp (rCatT K) (tOp (rCatT K) (tSl (rSlT2 K) (tVar 0) tNoPart (tPart (tC (.int 1)))) (tOp (rRepT K) (tTup (tCons (tLst tNil) tNil)) (tCB (rLen K) (tCons (tSl (rSlT2 K) (tVar 0) (tPart (tC (.int 1))) tNoPart) tNil)))) (tTup (tCons (tC (.int 0)) tNil))) σ H0 := fun H s Q q => by
  have le := hT.le
  have n1 := hT.n1
  obtain ⟨bs, hb, hbl⟩ := hT.bo
  refine head_sl (hT.same s) hσ fun p1 H1 s1 h1 => ?_
  refine ⟨by decide, fun l nl => ⟨by show 1 ≤ sizeLine; decide, fun p2 np2 => ?_⟩⟩
  have s2 : Same H1 (upd H1 l (.lst [])) := same_new (Same.refl _) nl
  have s3 : Same (upd H1 l (.lst [])) (upd (upd H1 l (.lst [])) p2 (.tup [.ref l])) := same_new (Same.refl _) np2
  have hl3 := s3 _ _ (upd_same (H := H1) (a := l) (o := .lst []))
  have hp3 : (upd (upd H1 l (.lst [])) p2 (.tup [.ref l])) p2 = some (.tup [.ref l]) := upd_same
  have h13 := s3 _ _ (s2 _ _ h1)
  have s03 : Same H (upd (upd H1 l (.lst [])) p2 (.tup [.ref l])) := s1.trans (s2.trans s3)
  generalize (upd (upd H1 l (.lst [])) p2 (.tup [.ref l])) = H3 at hl3 hp3 h13 s03
  refine tail_sl (hT.same (s.trans s03)) hσ fun r H4 s4 hr => ?_
  have el : ((ns.map V.int).length : Int) = ((ns.length : Nat) : Int) := by simp
  refine ⟨r, _, rfl, .inr (SqT.of hr), ?_⟩
  rw [el]
  refine ⟨p2, _, _, rfl, rfl, SqT.of (s4 _ _ hp3), by simp, by omega, by omega, by rw [sizeLine_eq, Int.toNat_natCast]; simp; omega, fun p5 np5 => ?_⟩
  rw [Int.toNat_natCast]
  have s5 : Same H4 (upd H4 p5 (.tup (List.replicate ns.length [V.ref l]).flatten)) := same_new (Same.refl _) np5
  have h5 : upd H4 p5 (.tup (List.replicate ns.length [V.ref l]).flatten) p5 = some (.tup (List.replicate ns.length [V.ref l]).flatten) := upd_same
  generalize upd H4 p5 (.tup (List.replicate ns.length [V.ref l]).flatten) = H5 at s5 h5
  have h15 := s5 _ _ (s4 _ _ h13)
  have hl5 := s5 _ _ (s4 _ _ hl3)
  have lf : ((List.replicate ns.length [V.ref l]).flatten).length = ns.length := by simp
  have s05 := s03.trans (s4.trans s5)
  have fin : ∀ p6 H6, Same H5 H6 → H6 p6 = some (.tup ([.str x] ++ (List.replicate ns.length [V.ref l]).flatten)) → (tTup (tCons (tC (.int 0)) tNil)) σ H6 fun y H2 => rCatT K (.ref p6) y H2 Q := fun p6 H6 s6 h6 => by
    refine ⟨by show 1 ≤ sizeLine; decide, fun p7 np7 => ?_⟩
    have s7 : Same H6 (upd H6 p7 (.tup [.int 0])) := same_new (Same.refl _) np7
    refine ⟨p6, p7, _, _, rfl, rfl, SqT.of (s7 _ _ h6), SqT.of upd_same, by simp, by rw [sizeLine_eq, List.length_append, lf]; simp; omega, fun z => (by cases z), fun _ p8 np8 => ?_⟩
    have s8 := same_new (o := .tup ([.str x] ++ (List.replicate ns.length [V.ref l]).flatten ++ [.int 0])) s7 np8
    have hl8 := s8 _ _ (s6 _ _ hl5)
    refine q _ _ (s05.trans (s6.trans s8)) (bad_tup upd_same (by rw [List.length_append, List.length_append, lf]; simp; omega) (ty_app (ty_app (ty_cons ⟨_, rfl⟩ ty_nil) ?_) (ty_cons ⟨_, rfl⟩ ty_nil)) ?_)
    · intro u hu
      have : u = .ref l := by
        obtain ⟨ys, hy, hu⟩ := List.mem_flatten.mp hu
        have := (List.mem_replicate.mp hy).2
        subst this
        simpa using hu
      subst this
      exact ⟨"list", by unfold tyName; simp only [hl8]⟩
    · show stepOk (.str x :: ((List.replicate ns.length [V.ref l]).flatten ++ [.int 0])) = false
      exact step_no hb (by rw [List.length_append, lf, hbl]; simp)
  refine ⟨p1, p5, _, _, rfl, rfl, SqT.of h15, SqT.of h5, by simp, by rw [sizeLine_eq, lf]; simp; omega, fun z => ?_, fun _ p6 np6 => ?_⟩
  · refine fin p1 H5 (Same.refl _) ?_
    rw [z]; exact h15
  · exact fin p6 _ (same_new (Same.refl _) np6) upd_same
end
end TL


namespace TL
open PySem PySem.Spec PyProof.Rows PySem.SeqAt L2 L3
def notStar : Expr → Bool
  | .Starred _ _ => false
  | _ => true
theorem se_any {e : Expr} {es : List Expr} {env : Env} (h : notStar e = true) : starEach (e :: es) env = (false, eval e env) :: starEach es env := by
  rw [starEach]
  intro e' p z
  subst z
  cases h
theorem pa_any {X : Cx} {e : Expr} {es : List Expr} {te : TE} {t : TA} (ha : PE X e te) (hn : notStar e = true) (hr : PA X es t) : PA X (e :: es) (tCons te t) := pa_cons ha hr (se_any hn)
def exprIn : Stmt → Expr
  | .Assign _ (.List xs p) _ => .List xs p
  | .Assign _ (.BinOp _ _ r _) _ => r
  | .Assign _ (.Subscript v _ _) _ => v
  | _ => .Constant .none 0 ⟨0, 0, 0, 0⟩
def ifB : Stmt → List Stmt
  | .If _ b _ _ => b
  | _ => []
@[irreducible] def eL9 : Expr := exprIn ((defBody sSpoilt).getD 1 (.Pass ⟨0, 0, 0, 0⟩))
@[irreducible] def eL4 : Expr := exprIn ((defBody sSpoilt).getD 2 (.Pass ⟨0, 0, 0, 0⟩))
@[irreducible] def eP6 : Expr := exprIn ((ifB ((defBody sSpoilt).getD 0 (.Pass ⟨0, 0, 0, 0⟩))).getD 1 (.Pass ⟨0, 0, 0, 0⟩))
abbrev tTail (K : PySem.W.Frag) : TE := tSl (rSlT2 K) (tVar 0) (tPart (tC (.int 1))) tNoPart
abbrev rLst (K : PySem.W.Frag) : List V → Hp → VK → Prop := fun xs H Q => ∃ p ys, xs = [.ref p] ∧ (SqL K H p ys ∨ SqT K H p ys) ∧ ∀ l, H l = none → Q (.ref l) (upd H l (.lst ys))
@[irreducible] def t9 (K : PySem.W.Frag) : TA := tCons (tOp (rCatT K) (tVar 0) (tTup (tCons (tC (.int 0)) tNil))) (tCons (tTail K) (tCons (tCB (rLst K) (tCons (tVar 0) tNil)) (tCons (tOp (rCatT K) (tTup (tCons (tC (.str "do")) tNil)) (tTail K)) (tCons (tTup tNil) (tCons (tTup (tCons (tC (.str "")) tNil))
  (tCons (tSl (rSlT2 K) (tVar 0) tNoPart (tPart (tOp (rI0 fun i j => .int (i - j)) (tCB (rLen K) (tCons (tVar 0) tNil)) (tC (.int 1))))) (tCons (tOp (rIxT K) (tVar 0) (tC (.int 0))) (tCons (tC .non) tNil))))))))
@[irreducible] def t4 (K : PySem.W.Frag) : TA := tCons (tOp (rCatT K) (tTup (tCons (tLst tNil) tNil)) (tTail K)) (tCons (tOp (rCatT K) (tTup (tCons (tLst (tCons (tOp (rIxT K) (tVar 0) (tC (.int 0))) tNil)) tNil)) (tTail K)) (tCons (tTup (tCons (tVar 0) tNil))
  (tCons (tOp (rCatT K) (tOp (rCatT K) (tSl (rSlT2 K) (tVar 0) tNoPart (tPart (tC (.int 1)))) (tOp (rRepT K) (tTup (tCons (tLst tNil) tNil)) (tCB (rLen K) (tCons (tTail K) tNil)))) (tTup (tCons (tC (.int 0)) tNil))) tNil)))
section
variable {X : Cx}
theorem p_tail (v0 : ∀ p, PE X (.Name "_law_told" p) (tVar 0)) {i : Nat} {p q r u : Pos} : PE X (.Subscript (.Name "_law_told" p) (.Slice (some (.Constant (.int 1) i q)) none none r) u) (tTail X.K) := pe_slice sl_tup2 (v0 _) (po_some pe_int) po_none
theorem p_len (gl : Gl X "len") (ml : X.mg "len" = none) {e : Expr} {te : TE} {p q : Pos} (h : PE X e te) (hn : notStar e = true) : PE X (.Call (.Name "len" p) [e] [] q) (tCB (rLen X.K) (tCons te tNil)) :=
  pe_callB call_len_seq gl ml PySem.boot_len (pa_any h hn pa_nil) (by decide) (by decide) (se_any hn) rfl
theorem pe_L9 (v0 : ∀ p, PE X (.Name "_law_told" p) (tVar 0)) (gl : Gl X "len") (ml : X.mg "len" = none) (gt : Gl X "list") (mt : X.mg "list" = none) : PE X eL9 (tLst (t9 X.K)) := by
  unfold eL9 t9
  refine @pe_lst X _ _ _ (@pa_any X _ _ _ _ ?h1 rfl (@pa_any X _ _ _ _ ?h2 rfl (@pa_any X _ _ _ _ ?h3 rfl (@pa_any X _ _ _ _ ?h4 rfl (@pa_any X _ _ _ _ ?h5 rfl (@pa_any X _ _ _ _ ?h6 rfl (@pa_any X _ _ _ _ ?h7 rfl (@pa_any X _ _ _ _ ?h8 rfl (@pa_any X _ _ _ _ ?h9 rfl pa_nil)))))))))
  case h1 => exact pe_op op_catT (v0 _) (pe_tup (pa_cons pe_int pa_nil))
  case h2 => exact p_tail v0
  case h3 => exact pe_callTy call_list_of gt mt boot_list (pa_cons (v0 _) pa_nil)
  case h4 => exact pe_op op_catT (pe_tup (pa_cons pe_str pa_nil)) (p_tail v0)
  case h5 => exact pe_tup pa_nil
  case h6 => exact pe_tup (pa_cons pe_str pa_nil)
  case h7 => exact pe_slice sl_tup2 (v0 _) po_none (po_some (pe_op op_sub (p_len gl ml (v0 _) rfl) pe_int))
  case h8 => exact pe_ix ix_tup (v0 _) pe_int (fun _ _ => rfl)
  case h9 => exact pe_non
theorem pe_L4 (v0 : ∀ p, PE X (.Name "_law_told" p) (tVar 0)) (gl : Gl X "len") (ml : X.mg "len" = none) : PE X eL4 (tLst (t4 X.K)) := by
  unfold eL4 t4
  refine @pe_lst X _ _ _ (@pa_any X _ _ _ _ ?h1 rfl (@pa_any X _ _ _ _ ?h2 rfl (@pa_any X _ _ _ _ ?h3 rfl (@pa_any X _ _ _ _ ?h4 rfl pa_nil))))
  case h1 => exact pe_op op_catT (pe_tup (pa_cons (pe_lst pa_nil) pa_nil)) (p_tail v0)
  case h2 => exact pe_op op_catT (pe_tup (pa_cons (pe_lst (pa_cons (pe_ix ix_tup (v0 _) pe_int (fun _ _ => rfl)) pa_nil)) pa_nil)) (p_tail v0)
  case h3 => exact pe_tup (pa_cons (v0 _) pa_nil)
  case h4 => exact pe_op op_catT (pe_op op_catT (pe_slice sl_tup2 (v0 _) po_none (po_some pe_int)) (pe_op op_repT (pe_tup (pa_cons (pe_lst pa_nil) pa_nil)) (p_len gl ml (p_tail v0) rfl))) (pe_tup (pa_cons pe_int pa_nil))
end
end TL


namespace TL
open PySem PySem.Spec PyProof.Rows PySem.SeqAt L2 L3
abbrev tTailS (K : PySem.W.Frag) : TS := tSeq (tAsg (tLst (t9 K)) (gName 5)) (tSeq (tAsg (tOp rCat (tVar 5) (tLst (t4 K))) (gName 5)) (tRet (tOp (rIxL K) (tVar 5) (tOp (rI (fun _ j => 0 < j) fun i j => .int (i % j)) (tOp (rI CDiv fun i j => .int (i / j)) (tVar 2) (tC (.int 3))) (tCB (rLen K) (tCons (tVar 5) tNil))))))
theorem spoilt_tail {K : PySem.W.Frag} {H0 H : Hp} {a l : Addr} {c : Int} {x : Str} {ns : List Int} {u1 u2 u3 : Option V} {D : Ends} (hT : ToldAt H0 a x ns) (s0 : Same H0 H) (q : ∀ v H', Same H0 H' → BadV H' v → D.rt v H') :
    tTailS K D [some (.ref a), some (.ref l), some (.int c), u1, u2, u3] H := by
  have B9 : ∀ σ : L2.St, σ[0]? = some (some (.ref a)) → BadA (t9 K) 9 σ H0 := fun σ h => by unfold t9; exact .cons (b_add0 hT h) (.cons (b_tail hT h) (.cons (b_list hT h) (.cons (b_do hT h) (.cons b_nil (.cons b_word (.cons (b_init hT h) (.cons (b_told0 hT h) (.cons b_non .nil))))))))
  have B4 : ∀ σ : L2.St, σ[0]? = some (some (.ref a)) → BadA (t4 K) 4 σ H0 := fun σ h => by unfold t4; exact .cons (b_lst hT h) (.cons (b_lst1 hT h) (.cons (b_one hT h) (.cons (b_rep hT h) .nil)))
  refine B9 _ rfl H s0 _ fun vs H1 s1 hl1 hb1 => ⟨by rw [hl1]; decide, fun L nL => ?_⟩
  have s2 : Same H1 (upd H1 L (.lst vs)) := same_new (Same.refl _) nL
  have hL : upd H1 L (.lst vs) L = some (.lst vs) := upd_same
  generalize upd H1 L (.lst vs) = H2 at s2 hL
  refine ⟨_, rfl, B4 _ rfl H2 (s0.trans (s1.trans s2)) _ fun us H3 s3 hl3 hb3 => ⟨by rw [hl3]; decide, fun L4 n4 => ?_⟩⟩
  have s4 : Same H3 (upd H3 L4 (.lst us)) := same_new (Same.refl _) n4
  refine ⟨L, L4, vs, us, rfl, rfl, s4 _ _ (s3 _ _ hL), upd_same, by rw [hl1, hl3]; decide, fun L5 n5 => ?_⟩
  have s5 : Same (upd H3 L4 (.lst us)) (upd (upd H3 L4 (.lst us)) L5 (.lst (vs ++ us))) := same_new (Same.refl _) n5
  have h5 : upd (upd H3 L4 (.lst us)) L5 (.lst (vs ++ us)) L5 = some (.lst (vs ++ us)) := upd_same
  have s35 : Same H3 (upd (upd H3 L4 (.lst us)) L5 (.lst (vs ++ us))) := s4.trans s5
  generalize upd (upd H3 L4 (.lst us)) L5 (.lst (vs ++ us)) = H5 at h5 s35
  have hb5 : ∀ v ∈ vs ++ us, BadV H5 v := fun v hv => by
    rcases List.mem_append.mp hv with hv | hv
    · exact (hb1 v hv).same (s2.trans (s3.trans s35))
    · exact (hb3 v hv).same s35
  have l13 : (vs ++ us).length = 13 := by rw [List.length_append, hl1, hl3]
  have m0 : 0 ≤ c / 3 % (((vs ++ us).length : Nat) : Int) := Int.emod_nonneg _ (by omega)
  have m1 : c / 3 % (((vs ++ us).length : Nat) : Int) < (((vs ++ us).length : Nat) : Int) := Int.emod_lt_of_pos _ (by omega)
  obtain ⟨v, hv, hbv⟩ : ∃ v, atI (vs ++ us) (c / 3 % (((vs ++ us).length : Nat) : Int)) = some v ∧ BadV H5 v := by
    generalize c / 3 % (((vs ++ us).length : Nat) : Int) = m at m0 m1
    have hlt : m.toNat < (vs ++ us).length := by omega
    have e : m = ((m.toNat : Nat) : Int) := by omega
    exact ⟨(vs ++ us)[m.toNat], (congrArg (atI (vs ++ us)) e).trans (atI_nat (List.getElem?_eq_getElem hlt)), hb5 _ (List.getElem_mem hlt)⟩
  refine ⟨_, rfl, _, rfl, _, _, rfl, rfl, ⟨by decide, by decide⟩, _, rfl, L5, _, rfl, .inl (SqL.of h5), _, _, rfl, rfl, by omega, L5, _, _, v, rfl, rfl, SqL.of h5, hv, q v H5 (s0.trans (s1.trans (s2.trans (s3.trans s35)))) hbv⟩
end TL


namespace TL
open PySem PySem.Spec PyProof.Rows PySem.SeqAt L2 L3
/-! ### the part that is no good -/
def PartBad (v : V) (b : Int) : Prop := wIn v b = false ∧ ∀ H, ∃ T, tyName H v = some T
theorem parts6 {c b : Int} (hc : 0 ≤ c) (m : Int) (h0 : 0 ≤ m) (h1 : m < 6) : ∃ v, atI [.int b, .int (-1 - c % 10 ^ (40 : Int).toNat), .int (b + c % 10 ^ (40 : Int).toNat), .bl true, .str "1", .non] m = some v ∧ PartBad v b := by
  have p40 : (0 : Int) < 10 ^ (40 : Int).toNat := Int.pow_pos (by decide)
  have e0 : 0 ≤ c % 10 ^ (40 : Int).toNat := Int.emod_nonneg _ (by omega)
  generalize c % 10 ^ (40 : Int).toNat = r at e0
  have hm : m = 0 ∨ m = 1 ∨ m = 2 ∨ m = 3 ∨ m = 4 ∨ m = 5 := by omega
  rcases hm with rfl | rfl | rfl | rfl | rfl | rfl
  · exact ⟨.int b, rfl, by simp [wIn], fun H => ⟨_, rfl⟩⟩
  · exact ⟨.int (-1 - r), rfl, by simp only [wIn]; rw [decide_eq_false (by omega)]; rfl, fun H => ⟨_, rfl⟩⟩
  · exact ⟨.int (b + r), rfl, by simp only [wIn]; rw [decide_eq_false (p := b + r < b) (by omega), Bool.and_false], fun H => ⟨_, rfl⟩⟩
  · exact ⟨.bl true, rfl, rfl, fun H => ⟨_, rfl⟩⟩
  · exact ⟨.str "1", rfl, rfl, fun H => ⟨_, rfl⟩⟩
  · exact ⟨.non, rfl, rfl, fun H => ⟨_, rfl⟩⟩
theorem step_p0 {x : Str} {b1 b2 j : Int} {v : V} (hb : boundsM x = some [b1, b2]) (hv : PartBad v b1) : stepOk [.str x, v, .int j] = false := by
  show (match boundsM x with | none => false | some bs => decide (([v, .int j] : List V).length = bs.length) && (([v, .int j] : List V).zip bs).all fun p => wIn p.1 p.2) = false
  rw [hb]
  simp [hv.1]
theorem step_p1 {x : Str} {b1 b2 i : Int} {v : V} (hb : boundsM x = some [b1, b2]) (hv : PartBad v b2) : stepOk [.str x, .int i, v] = false := by
  show (match boundsM x with | none => false | some bs => decide (([.int i, v] : List V).length = bs.length) && (([.int i, v] : List V).zip bs).all fun p => wIn p.1 p.2) = false
  rw [hb]
  simp [hv.1]
end TL


namespace TL
open PySem PySem.Spec PyProof.Rows PySem.SeqAt L2 L3
abbrev tMod40 : TE := tOp (rI (fun _ j => 0 < j) fun i j => .int (i % j)) (tVar 2) (tOp (rI CPow fun i j => .int (i ^ j.toNat)) (tC (.int 10)) (tC (.int 40)))
abbrev t6 (K : PySem.W.Frag) : TA := tCons (tOp (rIxL K) (tVar 1) (tVar 3)) (tCons (tOp (rI0 fun i j => .int (i - j)) (tUn (rU fun i => .int (-i)) (tC (.int 1))) tMod40) (tCons (tOp (rI0 fun i j => .int (i + j)) (tOp (rIxL K) (tVar 1) (tVar 3)) tMod40) (tCons (tC (.bl true)) (tCons (tC (.str "1")) (tCons (tC .non) tNil)))))
theorem pe_P6 {X : Cx} (v1 : ∀ p, PE X (.Name "_law_bounds_here" p) (tVar 1)) (v2 : ∀ p, PE X (.Name "_law_cell" p) (tVar 2)) (v3 : ∀ p, PE X (.Name "_law_at" p) (tVar 3)) : PE X eP6 (tLst (t6 X.K)) := by
  unfold eP6
  refine @pe_lst X _ _ _ (@pa_any X _ _ _ _ ?h1 rfl (@pa_any X _ _ _ _ ?h2 rfl (@pa_any X _ _ _ _ ?h3 rfl (@pa_any X _ _ _ _ ?h4 rfl (@pa_any X _ _ _ _ ?h5 rfl (@pa_any X _ _ _ _ ?h6 rfl pa_nil))))))
  case h1 => exact pe_ix ix_list (v1 _) (v3 _) (fun _ _ => rfl)
  case h2 => exact pe_op op_sub (pe_un un_neg pe_int) (pe_op op_mod (v2 _) (pe_op op_pow pe_int pe_int))
  case h3 => exact pe_op op_add (pe_ix ix_list (v1 _) (v3 _) (fun _ _ => rfl)) (pe_op op_mod (v2 _) (pe_op op_pow pe_int pe_int))
  case h4 => exact pe_bl
  case h5 => exact pe_str
  case h6 => exact pe_non
end TL


namespace TL
open PySem PySem.Spec PyProof.Rows PySem.SeqAt L2 L3
def ifT : Stmt → Expr
  | .If t _ _ _ => t
  | _ => .Constant .none 0 ⟨0, 0, 0, 0⟩
def subI : Stmt → Expr
  | .Assign _ (.Subscript _ i _) _ => i
  | _ => .Constant .none 0 ⟨0, 0, 0, 0⟩
abbrev spS (i : Nat) : Stmt := (defBody sSpoilt).getD i (.Pass ⟨0, 0, 0, 0⟩)
abbrev spB (i : Nat) : Stmt := (ifB (spS 0)).getD i (.Pass ⟨0, 0, 0, 0⟩)
theorem bodySp : ∃ p1 p2 p3 p4 p5 p6 p7 p8 p9 p10, defBody sSpoilt = [.If (ifT (spS 0)) [spB 0, .Assign [.Name "_law_part" p1] (.Subscript eP6 (subI (spB 1)) p2) p3, spB 2] [] p4, .Assign [.Name "_law_some" p5] eL9 p6, .Assign [.Name "_law_some" p7] (.BinOp (.Name "_law_some" p8) .Add eL4 p9) p10, spS 3] := by
  unfold eP6 eL9 eL4
  exact ⟨_, _, _, _, _, _, _, _, _, _, rfl⟩
theorem sw_L9 {x : Str} {p : Pos} {n : Nat} {env : Env} : swapsWith eL9 (some (.Name x p)) n env = pure false := by unfold eL9; rfl
theorem shaped_nilL : shaped (.list []) = true := by decide
theorem mixNil (ds : List PyData) : noMix (.list ds) (.list []) = true ∧ same (.list ds) (.list []) = decide (ds = []) := by
  cases ds with
  | nil => simp [noMix, noMixAll, same, sameAll]
  | cons d r => simp [noMix, noMixAll, same, sameAll]
theorem part_ret {K : PySem.W.Frag} {σ : L2.St} {H : Hp} {a : Addr} {x : Str} {i j m b1 b2 : Int} {v : V} {Q : VK} (hT : H a = some (.tup [.str x, .int i, .int j])) (hσ0 : σ[0]? = some (some (.ref a))) (hσ3 : σ[3]? = some (some (.int m))) (hσ4 : σ[4]? = some (some v))
    (hm : (m = 0 ∧ PartBad v b1) ∨ (m = 1 ∧ PartBad v b2)) (hb : boundsM x = some [b1, b2]) (q : ∀ v H', Same H H' → BadV H' v → Q v H') :
    (tOp (rCatT K) (tOp (rCatT K) (tSl (rSlT2 K) (tVar 0) tNoPart (tPart (tOp (rI0 fun i j => .int (i + j)) (tC (.int 1)) (tVar 3)))) (tTup (tCons (tVar 4) tNil))) (tSl (rSlT2 K) (tVar 0) (tPart (tOp (rI0 fun i j => .int (i + j)) (tC (.int 2)) (tVar 3))) tNoPart)) σ H Q := by
  rcases hm with ⟨rfl, hv⟩ | ⟨rfl, hv⟩
  · refine ⟨_, hσ0, _, hσ3, 1, 0, rfl, rfl, 1, rfl, a, _, rfl, SqT.of hT, fun z => ?_, fun _ p1 n1 => ?_⟩
    · exact absurd z.2 (by show ¬ (HT.sIx 3 3 (some 1) = 3); decide)
    have s1 : Same H (upd H p1 (.tup [.str x])) := same_new (Same.refl _) n1
    refine ⟨_, hσ4, by show 1 ≤ sizeLine; decide, fun p2 n2 => ?_⟩
    have s2 : Same (upd H p1 (.tup [.str x])) (upd (upd H p1 (.tup [.str x])) p2 (.tup [v])) := same_new (Same.refl _) n2
    refine ⟨p1, p2, [.str x], [v], rfl, rfl, SqT.of (s2 _ _ upd_same), SqT.of upd_same, by simp, by rw [sizeLine_eq]; simp, fun z => (by cases z), fun _ p3 n3 => ?_⟩
    have s3 : Same (upd (upd H p1 (.tup [.str x])) p2 (.tup [v])) (upd (upd (upd H p1 (.tup [.str x])) p2 (.tup [v])) p3 (.tup [.str x, v])) := same_new (Same.refl _) n3
    have h3 : (upd (upd (upd H p1 (.tup [.str x])) p2 (.tup [v])) p3 (.tup [.str x, v])) p3 = some (.tup [.str x, v]) := upd_same
    have s03 : Same H (upd (upd (upd H p1 (.tup [.str x])) p2 (.tup [v])) p3 (.tup [.str x, v])) := s1.trans (s2.trans s3)
    refine ⟨_, hσ0, _, hσ3, 2, 0, rfl, rfl, 2, rfl, a, _, rfl, SqT.of (s03 _ _ hT), fun z => ?_, fun _ p4 n4 => ?_⟩
    · exact absurd z.1 (by show ¬ (HT.sIx 3 0 (some 2) = 0); decide)
    have s4 := same_new (o := .tup (cutV [.str x, .int i, .int j] (some 2) none)) (Same.refl (upd (upd (upd H p1 (.tup [.str x])) p2 (.tup [v])) p3 (.tup [.str x, v]))) n4
    refine ⟨p3, p4, [.str x, v], [.int j], rfl, rfl, SqT.of (s4 _ _ h3), SqT.of upd_same, by simp, by rw [sizeLine_eq]; simp, fun z => (by cases z), fun _ p5 n5 => ?_⟩
    refine q _ _ (same_new (s03.trans s4) n5) (bad_tup upd_same (by simp) (ty_cons ⟨_, rfl⟩ (ty_cons (hv.2 _) (ty_cons ⟨_, rfl⟩ ty_nil))) (step_p0 hb hv))
  · refine ⟨_, hσ0, _, hσ3, 1, 1, rfl, rfl, 2, rfl, a, _, rfl, SqT.of hT, fun z => ?_, fun _ p1 n1 => ?_⟩
    · exact absurd z.2 (by show ¬ (HT.sIx 3 3 (some 2) = 3); decide)
    have s1 : Same H (upd H p1 (.tup [.str x, .int i])) := same_new (Same.refl _) n1
    refine ⟨_, hσ4, by show 1 ≤ sizeLine; decide, fun p2 n2 => ?_⟩
    have s2 : Same (upd H p1 (.tup [.str x, .int i])) (upd (upd H p1 (.tup [.str x, .int i])) p2 (.tup [v])) := same_new (Same.refl _) n2
    refine ⟨p1, p2, [.str x, .int i], [v], rfl, rfl, SqT.of (s2 _ _ upd_same), SqT.of upd_same, by simp, by rw [sizeLine_eq]; simp, fun z => (by cases z), fun _ p3 n3 => ?_⟩
    have s3 : Same (upd (upd H p1 (.tup [.str x, .int i])) p2 (.tup [v])) (upd (upd (upd H p1 (.tup [.str x, .int i])) p2 (.tup [v])) p3 (.tup [.str x, .int i, v])) := same_new (Same.refl _) n3
    have h3 : (upd (upd (upd H p1 (.tup [.str x, .int i])) p2 (.tup [v])) p3 (.tup [.str x, .int i, v])) p3 = some (.tup [.str x, .int i, v]) := upd_same
    have s03 : Same H (upd (upd (upd H p1 (.tup [.str x, .int i])) p2 (.tup [v])) p3 (.tup [.str x, .int i, v])) := s1.trans (s2.trans s3)
    refine ⟨_, hσ0, _, hσ3, 2, 1, rfl, rfl, 3, rfl, a, _, rfl, SqT.of (s03 _ _ hT), fun z => ?_, fun _ p4 n4 => ?_⟩
    · exact absurd z.1 (by show ¬ (HT.sIx 3 0 (some 3) = 0); decide)
    have s4 := same_new (o := .tup (cutV [.str x, .int i, .int j] (some 3) none)) (Same.refl (upd (upd (upd H p1 (.tup [.str x, .int i])) p2 (.tup [v])) p3 (.tup [.str x, .int i, v]))) n4
    refine ⟨p3, p4, [.str x, .int i, v], [], rfl, rfl, SqT.of (s4 _ _ h3), SqT.of upd_same, by simp, by rw [sizeLine_eq]; simp, fun _ => ?_, fun z => absurd rfl z⟩
    refine q _ _ (s03.trans s4) (bad_tup (s4 _ _ h3) (by simp) (ty_cons ⟨_, rfl⟩ (ty_cons ⟨_, rfl⟩ (ty_cons (hv.2 _) ty_nil))) (step_p1 hb hv))
section
variable {P : Program} {w : World} {K : PySem.W.Frag} {mg : Str → Option Value} {base : Heap}
def spSpoilt : Sp := fun vs H Q _ => ∃ a l c x ns bs, vs = [.ref a, .ref l, .int c] ∧ ToldAt H a x ns ∧ H l = some (.lst (bs.map V.int)) ∧ boundsM x = some bs ∧ 0 ≤ c ∧ ∀ v H', Same H H' → BadV H' v → Q v H'
theorem scSpoilt : FnScope ["_law_told", "_law_bounds_here", "_law_cell", "_law_at", "_law_part", "_law_some"] ["_law_told", "_law_bounds_here", "_law_cell"] (defScope sSpoilt) := ⟨rfl, rfl, rfl, by decide +kernel, rfl, by decide +kernel, by decide +kernel⟩
theorem ok_Spoilt {f : Addr} {fd : FuncData} (F : Fun K "_law_spoilt" "_law_spoilt" sSpoilt f fd) (hln : mg "len" = none) (hls : mg "list" = none) : FnOk P w K mg base CX0 1 f fd ["_law_told", "_law_bounds_here", "_law_cell"] spSpoilt := by
  refine F.ok scSpoilt (fun vs H Q E h => ?_) (fun cdv A outer s H vs Q E hr h => ?_)
  · obtain ⟨a, l, c, x, ns, bs, rfl, _⟩ := h
    rfl
  · obtain ⟨a, l, c, x, ns, bs, rfl, hT, hl, hb, hc, k⟩ := h
    have hu := hr.units
    obtain ⟨p1, p2, p3, p4, p5, p6, p7, p8, p9, p10, eb⟩ := bodySp
    rw [eb]
    refine ⟨_, pss_cons (ps_if (pt_cmpR (op_neD hu) (pv 1) (pe_lst pa_nil) (nomark _))
        (pss_cons (ps_set (i := 3) scSpoilt.nd rfl (Or.inl rfl) (pe_op op_mod (pe_op op_fdiv (pv 2) pe_int) (pe_callB call_len_seq rfl hln PySem.boot_len (pa_cons (pv 1) pa_nil))))
        (pss_cons (ps_set (i := 4) scSpoilt.nd rfl (Or.inl rfl) (pe_ix ix_list (pe_P6 (fun _ => pv 1) (fun _ => pv 2) (fun _ => pv 3)) (pe_op op_mod (pe_op op_fdiv (pv 2) pe_int) pe_int) (fun _ _ => rfl)))
        (pss_one (ps_if (pt_cmpR op_gt (pe_op op_mod (pv 2) pe_int) pe_int (nomark _)) (pss_one (ps_ret (pe_op op_catT (pe_op op_catT (pe_slice sl_tup2 (pv 0) po_none (po_some (pe_op op_add pe_int (pv 3)))) (pe_tup (pa_cons (pv 4) pa_nil))) (pe_slice sl_tup2 (pv 0) (po_some (pe_op op_add pe_int (pv 3))) po_none)))) pss_nil)))) pss_nil)
      (pss_cons (ps_set (i := 5) scSpoilt.nd rfl (Or.inl rfl) (pe_L9 (fun _ => pv 0) rfl hln rfl hls) sw_L9)
      (pss_cons (ps_set (i := 5) scSpoilt.nd rfl (Or.inl rfl) (pe_op op_cat (pv 5) (pe_L4 (fun _ => pv 0) rfl hln)))
      (pss_one (ps_ret (pe_ix ix_list (pv 5) (pe_op op_mod (pe_op op_fdiv (pv 2) pe_int) (pe_callB call_len_seq rfl hln PySem.boot_len (pa_cons (pv 5) pa_nil))) (fun _ _ => rfl)))))), ?_⟩
    refine ⟨_, rfl, by decide, fun l0 n0 => ?_⟩
    have s1 : Same H (upd H l0 (.lst [])) := same_new (Same.refl _) n0
    have h0 : upd H l0 (.lst []) l0 = some (.lst []) := upd_same
    generalize upd H l0 (.lst []) = H1 at s1 h0
    have hl1 := s1 _ _ hl
    refine ⟨_, _, dat_intsL hl1, .lst (SqL.of h0) .nil, shaped_intsL _, shaped_nilL, (mixNil _).1, _, rfl, ?_⟩
    rw [if_pos rfl, (mixNil _).2]
    have le := hT.le
    have n1 := hT.n1
    obtain ⟨bs', hb', hbl⟩ := hT.bo
    rw [hb] at hb'
    cases hb'
    match bs, ns, hbl, le, n1, hb, hl1, hT with
    | [], _, _, _, _, _, _, hT => exact iteE (by simp) (spoilt_tail hT s1 k)
    | [_], [_], _, _, n1, _, _, _ => exact absurd rfl n1
    | b1 :: b2 :: _ :: _, ns, hbl, le, _, _, _, _ => exact absurd le (by rw [← hbl]; simp)
    | [b1, b2], [i, j], _, _, _, hb, hl1, hT =>
      refine iteU (by simp) ?_
      have m0 : 0 ≤ c / 11 % 2 := Int.emod_nonneg _ (by decide)
      have m1 : c / 11 % 2 < 2 := Int.emod_lt_of_pos _ (by decide)
      have k0 : 0 ≤ c / 31 % 6 := Int.emod_nonneg _ (by decide)
      have k1 : c / 31 % 6 < 6 := Int.emod_lt_of_pos _ (by decide)
      have p40 : (0 : Int) < 10 ^ (40 : Int).toNat := Int.pow_pos (by decide)
      obtain ⟨b, hbat, hbm⟩ : ∃ b, atI ([b1, b2].map V.int) (c / 11 % 2) = some (.int b) ∧ ((c / 11 % 2 = 0 ∧ b = b1) ∨ (c / 11 % 2 = 1 ∧ b = b2)) := by
        have hm : c / 11 % 2 = 0 ∨ c / 11 % 2 = 1 := by omega
        rcases hm with e | e
        · exact ⟨b1, by rw [e]; rfl, .inl ⟨e, rfl⟩⟩
        · exact ⟨b2, by rw [e]; rfl, .inr ⟨e, rfl⟩⟩
      obtain ⟨v, hv, hpv⟩ := parts6 (b := b) hc (c / 31 % 6) k0 k1
      refine ⟨_, rfl, _, _, rfl, rfl, ⟨by decide, by decide⟩, _, rfl, l, _, rfl, .inl (SqL.of hl1), c / 11, 2, rfl, rfl, (by show (0 : Int) < 2; decide), ?_⟩
      refine ⟨_, rfl, .int (c / 11 % 2), rfl, l, _, c / 11 % 2, .int b, rfl, rfl, SqL.of hl1, hbat, ?_⟩
      refine ⟨_, rfl, _, rfl, _, _, rfl, rfl, ⟨by decide, by decide, by decide⟩, _, _, rfl, rfl, p40, _, _, rfl, rfl, ?_⟩
      refine ⟨_, rfl, .int (c / 11 % 2), rfl, l, _, c / 11 % 2, .int b, rfl, rfl, SqL.of hl1, hbat, ?_⟩
      refine ⟨_, rfl, _, _, rfl, rfl, ⟨by decide, by decide, by decide⟩, _, _, rfl, rfl, p40, _, _, rfl, rfl, by show 6 ≤ sizeLine; decide, fun L nL => ?_⟩
      refine ⟨_, rfl, _, _, rfl, rfl, ⟨by decide, by decide⟩, _, _, rfl, rfl, (by show (0 : Int) < 6; decide), L, _, c / 31 % 6, v, rfl, rfl, SqL.of upd_same, hv, ?_⟩
      have s2 : Same H1 (upd H1 L (.lst [.int b, .int (-1 - c % 10 ^ (40 : Int).toNat), .int (b + c % 10 ^ (40 : Int).toNat), .bl true, .str "1", .non])) := same_new (Same.refl _) nL
      refine ⟨_, rfl, _, _, rfl, rfl, (by show (0 : Int) < 3; decide), _, _, rfl, rfl, _, rfl, iteD (fun z => ?_) (fun z => ?_)⟩
      · refine part_ret (i := i) (j := j) (m := c / 11 % 2) (v := v) (b1 := b1) (b2 := b2) (s2 _ _ (s1 _ _ hT.at_)) rfl rfl rfl ?_ hb fun u H' s' hu => k u H' (s1.trans (s2.trans s')) hu
        rcases hbm with ⟨e, rfl⟩ | ⟨e, rfl⟩
        · exact .inl ⟨e, hpv⟩
        · exact .inr ⟨e, hpv⟩
      · exact spoilt_tail hT (s1.trans s2) k
end
end TL


namespace TL
open PySem PySem.Spec PyProof.Rows PySem.SeqAt L2 L3
def mixN (c k : Int) : Int := (c % 2147483647 + 7919 * k + 1) * 48271 % 2147483647
def mixedM (c k : Int) : Int := mixN c k * (mixN c k / 1009 + 69621) % 2147483647
theorem mixN_b (c k : Int) : 0 ≤ mixN c k ∧ mixN c k < 2147483647 := ⟨Int.emod_nonneg _ (by decide), Int.emod_lt_of_pos _ (by decide)⟩
theorem mixedM_b (c k : Int) : 0 ≤ mixedM c k ∧ mixedM c k < 2147483647 := ⟨Int.emod_nonneg _ (by decide), Int.emod_lt_of_pos _ (by decide)⟩
section
variable {P : Program} {w : World} {K : PySem.W.Frag} {mg : Str → Option Value} {base : Heap}
def spMix : Sp := fun vs H Q _ => ∃ c j, vs = [.int c, .int j] ∧ Q (.int (mixedM c j)) H
theorem scMix : FnScope ["_law_cell", "_law_k", "_law_number"] ["_law_cell", "_law_k"] (defScope sMixed) := ⟨rfl, rfl, rfl, by decide +kernel, rfl, by decide +kernel, by decide +kernel⟩
theorem ok_mix {f : Addr} {fd : FuncData} (F : Fun K "_law_mixed" "_law_mixed" sMixed f fd) : FnOk P w K mg base CX0 1 f fd ["_law_cell", "_law_k"] spMix := by
  refine F.ok scMix (fun vs H Q E h => ?_) (fun cdv A outer s H vs Q E hr h => ?_)
  · obtain ⟨a, j, rfl, _⟩ := h
    rfl
  · obtain ⟨c, j, rfl, k⟩ := h
    refine ⟨_, pss_cons (ps_set (i := 2) scMix.nd rfl (Or.inl rfl) (pe_op op_mod (pe_op op_mul (pe_op op_add (pe_op op_add (pe_op op_mod (pv 0) pe_int) (pe_op op_mul pe_int (pv 1))) pe_int) pe_int) pe_int))
      (pss_one (ps_ret (pe_op op_mod (pe_op op_mul (pv 2) (pe_op op_add (pe_op op_fdiv (pv 2) pe_int) pe_int)) pe_int))), ?_⟩
    have hb := mixN_b c j
    refine ⟨_, rfl, _, _, rfl, rfl, (by show (0 : Int) < 2147483647; decide), _, rfl, _, _, rfl, rfl, .inl ⟨by decide, by decide⟩, _, _, rfl, rfl, _, _, rfl, rfl, _, _, rfl, rfl, .inr ⟨by decide, by decide⟩, _, _, rfl, rfl, (by show (0 : Int) < 2147483647; decide), ?_⟩
    refine ⟨_, rfl, _, rfl, _, _, rfl, rfl, ⟨by decide, by decide⟩, _, _, rfl, rfl, _, _, rfl, rfl, .inl ⟨?_, ?_⟩, _, _, rfl, rfl, (by show (0 : Int) < 2147483647; decide), k⟩
    · show -(2 ^ 64) < mixN c j
      omega
    · show mixN c j < 2 ^ 64
      omega

def wordsV : List V := [.str "put", .str "add", .str "set", .str "look", .str "swap", .str "clear", .str "skip"]
theorem word_at (d : Int) : ∃ x bs, atI wordsV (d % 7) = some (.str x) ∧ boundsM x = some bs ∧ (bs = [] ∨ ∃ b c, bs = [b, c] ∧ 0 < b ∧ 0 < c) ∧ (x = "put" → bs = [4, TOPi]) := by
  have h0 : 0 ≤ d % 7 := Int.emod_nonneg _ (by decide)
  have h1 : d % 7 < 7 := Int.emod_lt_of_pos _ (by decide)
  generalize d % 7 = m at h0 h1
  have hm : m = 0 ∨ m = 1 ∨ m = 2 ∨ m = 3 ∨ m = 4 ∨ m = 5 ∨ m = 6 := by omega
  rcases hm with rfl | rfl | rfl | rfl | rfl | rfl | rfl
  · exact ⟨_, _, rfl, bo_put, .inr ⟨_, _, rfl, by decide, by decide⟩, fun _ => rfl⟩
  · exact ⟨_, _, rfl, bo_add, .inr ⟨_, _, rfl, by decide, by decide⟩, fun z => absurd z (by decide +kernel)⟩
  · exact ⟨_, _, rfl, bo_set, .inr ⟨_, _, rfl, by decide, by decide⟩, fun z => absurd z (by decide +kernel)⟩
  · exact ⟨_, _, rfl, bo_look, .inr ⟨_, _, rfl, by decide, by decide⟩, fun z => absurd z (by decide +kernel)⟩
  · exact ⟨_, _, rfl, bo_swap, .inr ⟨_, _, rfl, by decide, by decide⟩, fun z => absurd z (by decide +kernel)⟩
  · exact ⟨_, _, rfl, bo_clear, .inl rfl, fun z => absurd z (by decide +kernel)⟩
  · exact ⟨_, _, rfl, bo_skip, .inr ⟨_, _, rfl, by decide, by decide⟩, fun z => absurd z (by decide +kernel)⟩
def drawnV (c : Int) (bs : List Int) (i : Nat) : List Int := (List.range i).map fun (j : Nat) => mixedM c (5 + (j : Int)) % bs.getD j 1
theorem step_two {x : Str} {b c u v : Int} (hb : boundsM x = some [b, c]) (h1 : 0 ≤ u ∧ u < b) (h2 : 0 ≤ v ∧ v < c) : stepOk (.str x :: [u, v].map V.int) = true := by
  show (match boundsM x with | none => false | some bs => decide (([u, v].map V.int).length = bs.length) && (([u, v].map V.int).zip bs).all fun p => wIn p.1 p.2) = true
  rw [hb]
  simp [wIn, h1, h2]
theorem step_nil {x : Str} (hb : boundsM x = some []) : stepOk (.str x :: ([] : List Int).map V.int) = true := by
  show (match boundsM x with | none => false | some bs => decide ((([] : List Int).map V.int).length = bs.length) && ((([] : List Int).map V.int).zip bs).all fun p => wIn p.1 p.2) = true
  rw [hb]
  simp
structure L01 where
  (fM fR fB fG fS fLaw cN cE : Addr)
  (fdM fdR fdB fdG fdS fdLaw : FuncData)
structure L01Ok (K : PySem.W.Frag) (mg : Str → Option Value) (t : Adr) (m : MsT) (v : L01) : Prop where
  ms : MsOk K mg t m
  xN : XFacts K v.cN v.cE
  mX : mg "NoStep" = some (.ref v.cN)
  mE : mg "TrayError" = some (.ref v.cE)
  hVE : mg "ValueError" = none
  range : mg "range" = none
  min : mg "min" = none
  list : mg "list" = none
  fnM : Fun K "_law_mixed" "_law_mixed" sMixed v.fM v.fdM
  bM : Binds K v.fdM ["_law_cell", "_law_k"] []
  mM : mg "_law_mixed" = some (.ref v.fM)
  fnR : Fun K "_law_refused" "_law_refused" sRefused v.fR v.fdR
  bR : Binds K v.fdR ["_law_told"] []
  mR : mg "_law_refused" = some (.ref v.fR)
  fnB : Fun K "_law_bounds" "_law_bounds" sLBounds v.fB v.fdB
  bB : Binds K v.fdB ["_law_word"] []
  mB : mg "_law_bounds" = some (.ref v.fB)
  fnG : Fun K "_law_good" "_law_good" sGood v.fG v.fdG
  bG : Binds K v.fdG ["_law_told", "_law_place"] []
  mG : mg "_law_good" = some (.ref v.fG)
  fnS : Fun K "_law_spoilt" "_law_spoilt" sSpoilt v.fS v.fdS
  bS : Binds K v.fdS ["_law_told", "_law_bounds_here", "_law_cell"] []
  mS : mg "_law_spoilt" = some (.ref v.fS)
  fnLaw : Fun K "law" "law" sLaw v.fLaw v.fdLaw
variable {t : Adr} {m : MsT} {v : L01}
def spLaw (K : PySem.W.Frag) : Sp := fun vs H Q _ => ∃ (a : Addr) (ns : List Int), vs = [.ref a] ∧ SqL K H a (ns.map V.int) ∧ ns.length ≤ 63 ∧ ∀ H', Q (.bl true) H'
theorem scLaw : FnScope ["_law_script", "_law_words", "_law_k", "_law_draw", "_law_word", "_law_bounds_here", "_law_parts", "_law_told"] ["_law_script"] (defScope sLaw) := ⟨rfl, rfl, rfl, by decide +kernel, rfl, by decide +kernel, by decide +kernel⟩
theorem nd_c : (["_law_script", "_law_k", "_law_bounds_here", "_law_at"] : List Str).Nodup := by decide +kernel
abbrev lawS (i : Nat) : Stmt := (defBody sLaw).getD i (.Pass ⟨0, 0, 0, 0⟩)
def forBody : Stmt → List Stmt
  | .For _ _ b _ _ => b
  | _ => []
abbrev bS (i : Nat) : Stmt := (forBody (lawS 1)).getD i (.Pass ⟨0, 0, 0, 0⟩)
def forTg : Stmt → Expr
  | .For t _ _ _ _ => t
  | _ => .Constant .none 0 ⟨0, 0, 0, 0⟩
def forIt : Stmt → Expr
  | .For _ e _ _ _ => e
  | _ => .Constant .none 0 ⟨0, 0, 0, 0⟩
def forPos : Stmt → Pos
  | .For _ _ _ _ p => p
  | _ => ⟨0, 0, 0, 0⟩
theorem bodyLw : defBody sLaw = [lawS 0, .For (forTg (lawS 1)) (forIt (lawS 1)) [bS 0, bS 1, bS 2, bS 3, bS 4, bS 5, bS 6, bS 7] [] (forPos (lawS 1)), lawS 2] := rfl
theorem ok_law (T : L01Ok K mg t m v) : FnOk P w K mg base CX0 6 v.fLaw v.fdLaw ["_law_script"] (spLaw K) := by
  have GM : FnOk P w K mg base CX0 1 v.fM v.fdM ["_law_cell", "_law_k"] spMix := ok_mix T.fnM
  have GR : FnOk P w K mg base CX0 5 v.fR v.fdR ["_law_told"] spRefused := ok_Refused T.fnR T.ms.st T.xN T.mX T.mE T.hVE
  have GB : FnOk P w K mg base CX0 1 v.fB v.fdB ["_law_word"] spLB := ok_LB T.fnB
  have GG : FnOk P w K mg base CX0 5 v.fG v.fdG ["_law_told", "_law_place"] spGood := ok_Good T.fnG T.ms T.xN.xc T.mX
  have GS : FnOk P w K mg base CX0 1 v.fS v.fdS ["_law_told", "_law_bounds_here", "_law_cell"] spSpoilt := ok_Spoilt T.fnS T.ms.st.bl.len T.list
  refine T.fnLaw.ok scLaw (fun vs H Q E h => ?_) (fun cdv A outer s H vs Q E hr h => ?_)
  · obtain ⟨a, ns, rfl, _⟩ := h
    rfl
  · obtain ⟨a, ns, rfl, hS, hlen, k⟩ := h
    have hr1 := hr.mono (j := 1) (by decide)
    have hu := hr.units
    have hln := T.ms.st.bl.len
    obtain ⟨tU, hU, useU⟩ : ∃ tU, PSs (cxOf CX0 P w K mg base ["_law_script", "_law_words", "_law_k", "_law_draw", "_law_word", "_law_bounds_here", "_law_parts", "_law_told"] "law" (defScope sLaw) v.fLaw cdv A outer s H E).nox [bS 5, bS 6, bS 7] tU ∧
        ∀ (D : Ends) (L lp lb : Addr) (x : Str) (kk td : Option V) (d : Int) (vs bs : List Int) (H4 : Hp), H4 lp = some (.lst (vs.map V.int)) → vs.length ≤ 2 → H4 lb = some (.lst (bs.map V.int)) → boundsM x = some bs → stepOk (.str x :: vs.map V.int) = true →
          (∀ H' ta, H' ta = some (.tup (.str x :: vs.map V.int)) → ToldAt H' ta x vs) → 0 ≤ d → (∀ td H', Same H4 H' → D.nx [some (.ref a), some (.ref L), kk, some (.int d), some (.str x), some (.ref lb), some (.ref lp), td] H') →
          tU D [some (.ref a), some (.ref L), kk, some (.int d), some (.str x), some (.ref lb), some (.ref lp), td] H4 := by
      refine ⟨_, pss_cons (ps_set (i := 7) scLaw.nd rfl (Or.inl rfl) (pe_callTy call_tuple_of rfl T.ms.st.bl.tuple boot_tuple (pa_cons (pe_op op_cat (pe_lst (pa_cons (pv 4) pa_nil)) (pv 6)) pa_nil))) (pss_cons (ps_if (pt_not (pt_val (pe_call GG hr rfl T.mG T.fnG.kp T.bG .nil pass0 (pa_cons (pv 7) (pa_cons (pe_op op_mod (pe_op op_fdiv (pv 3) pe_int) pe_int) pa_nil))))) (pss_one (ps_ret pe_bl)) pss_nil) (pss_one (ps_if (pt_not (pt_val (pe_call GR hr rfl T.mR T.fnR.kp T.bR .nil pass0 (pa_cons (pe_call GS hr1 rfl T.mS T.fnS.kp T.bS .nil pass0 (pa_cons (pv 7) (pa_cons (pv 5) (pa_cons (pe_op op_fdiv (pv 3) pe_int) pa_nil)))) pa_nil)))) (pss_one (ps_ret pe_bl)) pss_nil))), fun D L lp lb x kk td d vs bs H4 hp4 hvl hb4 hb hst hto d0 kD => ?_⟩
      refine ⟨_, rfl, by show 1 ≤ sizeLine; decide, fun l1 m1 => ?_⟩
      have q1 : Same H4 (upd H4 l1 (.lst [.str x])) := same_new (Same.refl _) m1
      refine ⟨_, rfl, l1, lp, _, _, rfl, rfl, upd_same, q1 _ _ hp4, by rw [sizeLine_eq, List.length_map]; show 1 + vs.length ≤ _; omega, fun l2 m2 => ?_⟩
      have q2 : Same (upd H4 l1 (.lst [.str x])) (upd (upd H4 l1 (.lst [.str x])) l2 (.lst ([.str x] ++ vs.map V.int))) := same_new (Same.refl _) m2
      refine ⟨l2, _, rfl, .inl ⟨SqL.of upd_same, fun ta nta => ?_⟩⟩
      have q3 : Same (upd (upd H4 l1 (.lst [.str x])) l2 (.lst ([.str x] ++ vs.map V.int))) (upd (upd (upd H4 l1 (.lst [.str x])) l2 (.lst ([.str x] ++ vs.map V.int))) ta (.tup ([.str x] ++ vs.map V.int))) := same_new (Same.refl _) nta
      have hta : (upd (upd (upd H4 l1 (.lst [.str x])) l2 (.lst ([.str x] ++ vs.map V.int))) ta (.tup ([.str x] ++ vs.map V.int))) ta = some (.tup (.str x :: vs.map V.int)) := upd_same
      have q13 := q1.trans (q2.trans q3)
      refine ⟨_, rfl, _, rfl, _, _, rfl, rfl, ⟨by decide, by decide⟩, _, _, rfl, rfl, (by show (0 : Int) < 121; decide), ta, _, x, _, rfl, hta, hst, fun H9 q9 => ⟨_, rfl, iteF ?_⟩⟩
      have d64 : 0 ≤ d / 64 := Int.ediv_nonneg d0 (by decide)
      refine ⟨_, rfl, _, rfl, _, rfl, _, _, rfl, rfl, ⟨by decide, by decide⟩, ta, lb, d / 64, x, vs, bs, rfl, hto _ _ (q9 _ _ hta), q9 _ _ (q13 _ _ hb4), hb, d64, fun u H10 q10 hbad => ?_⟩
      obtain ⟨⟨Tn, hT1⟩, hv, hs⟩ := hbad
      exact ⟨u, Tn, rfl, hT1, hv, hs, fun H11 q11 => ⟨_, rfl, iteF (kD _ _ (q13.trans (q9.trans (q10.trans q11))))⟩⟩
    rw [bodyLw]
    refine ⟨_, pss_cons (ps_set (i := 1) scLaw.nd rfl (Or.inl rfl) (pe_lst (pa_str (pa_str (pa_str (pa_str (pa_str (pa_str (pa_str pa_nil)))))))))
      (pss_cons (ps_for PassesOwn.never rfl (pi_range1 rfl T.range (pa_cons (pe_callB (call_min2 rfl) rfl T.min boot_min (pa_cons (pe_callB call_len_seq rfl hln PySem.boot_len (pa_cons (pv 0) pa_nil)) (pa_cons pe_int pa_nil))) pa_nil)) (pg_name (i := 2) scLaw.nd rfl (Or.inr rfl))
        (pss_cons (ps_set (i := 3) scLaw.nd rfl (Or.inl rfl) (pe_call GM hr1 rfl T.mM T.fnM.kp T.bM .nil pass0 (pa_cons (pe_ix ix_list (pv 0) (pv 2) (fun _ _ => rfl)) (pa_cons (pv 2) pa_nil))))
        (pss_cons (ps_set (i := 4) scLaw.nd rfl (Or.inl rfl) (pe_ix ix_list (pv 1) (pe_op op_mod (pv 3) pe_int) (fun _ _ => rfl)))
        (pss_cons (ps_set (i := 5) scLaw.nd rfl (Or.inr rfl) (pe_call GB hr1 rfl T.mB T.fnB.kp T.bB .nil pass0 (pa_cons (pv 4) pa_nil)))
        (pss_cons (ps_setComp (i := 6) (N := ["_law_script", "_law_k", "_law_bounds_here", "_law_at"]) (idx := [0, 2, 5]) scLaw.nd rfl rfl rfl (ScC.of (by kernel_rfl)) (gkeep_name (Nat.le_refl _)) (pi_range1 rfl T.range (pa_cons (pe_callB call_len_seq rfl hln PySem.boot_len (pa_cons (pv 5) pa_nil)) pa_nil))
            (fun _ _ _ _ => pg_name (i := 3) nd_c rfl (Or.inl rfl) (.inr rfl)) (fun _ _ _ _ => pts_nil)
            (fun _ _ _ _ => pe_op op_mod (pe_call GM hr1 rfl T.mM T.fnM.kp T.bM .nil pass0 (pa_cons (pe_ix (ixl_K K) (pv 0) (pv 1) (fun _ _ => rfl)) (pa_cons (pe_op op_add pe_int (pv 3)) pa_nil))) (pe_ix (ixl_K K) (pv 2) (pv 3) (fun _ _ => rfl))))
        (pss_cons (ps_if (PW.pt (pw_and (pt_cmpR op_eq (pv 4) pe_str (nomark _)) (pw_and1 (pt_cmpR op_eq (pe_op op_mod (pv 3) pe_int) pe_int (nomark _))))) (pss_one (ps_asg (pe_op op_mod (pe_ix ix_list (pv 0) (pv 2) (fun _ _ => rfl)) (pe_op op_pow pe_int pe_int)) (pg_sub (pv 6) pe_int set_list))) pss_nil)
        hU))))))
      (pss_one (ps_ret pe_bl))), ?_⟩
    refine ⟨by show 7 ≤ sizeLine; decide, fun L nL => ?_⟩
    have s1 : Same H (upd H L (.lst wordsV)) := same_new (Same.refl _) nL
    have hL1 : upd H L (.lst wordsV) L = some (.lst wordsV) := upd_same
    change (tSeq _ _ _ _ (upd H L (.lst wordsV)))
    generalize upd H L (.lst wordsV) = H1 at s1 hL1
    have hlen2 : (if (40 : Int) < ((ns.map V.int).length : Int) then (40 : Int) else ((ns.map V.int).length : Int)) ≤ 40 ∧ 0 ≤ (if (40 : Int) < ((ns.map V.int).length : Int) then (40 : Int) else ((ns.map V.int).length : Int)) ∧ (if (40 : Int) < ((ns.map V.int).length : Int) then (40 : Int) else ((ns.map V.int).length : Int)) ≤ ns.length := by
      rw [List.length_map]
      split <;> omega
    refine ⟨_, rfl, a, _, rfl, .inl (s1.seq hS), _, _, rfl, _, rfl, by omega, by omega, ?_⟩
    generalize (if (40 : Int) < ((ns.map V.int).length : Int) then (40 : Int) else ((ns.map V.int).length : Int)) = mm at hlen2
    obtain ⟨e1, e2, e3⟩ := hlen2
    refine for_range (n := mm.toNat) (fun i σ H' => (∃ kk dr wd bh pt td, σ = [some (.ref a), some (.ref L), kk, dr, wd, bh, pt, td]) ∧ Same H H' ∧ H' L = some (.lst wordsV)) ⟨⟨none, none, none, none, none, none, rfl⟩, s1, hL1⟩ ?_ ?_
    · rintro i σ H2 hi ⟨⟨kk, dr, wd, bh, pt, td, rfl⟩, s2, hL2⟩
      have hlt : i < ns.length := by omega
      obtain ⟨c, hc⟩ : ∃ c, ns[i]? = some c := ⟨_, List.getElem?_eq_getElem hlt⟩
      have hat : atI (ns.map V.int) (0 + (i : Int)) = some (.int c) := by
        rw [Int.zero_add]
        exact atI_nat (by rw [List.getElem?_map, hc]; rfl)
      refine ⟨_, rfl, _, rfl, a, _, _, .int c, rfl, rfl, s2.seq hS, hat, _, rfl, c, 0 + (i : Int), rfl, ?_⟩
      obtain ⟨d0, _⟩ := mixedM_b c (0 + (i : Int))
      generalize mixedM c (0 + (i : Int)) = d at d0
      obtain ⟨x, bs, hx, hb, hbs, hput⟩ := word_at d
      refine ⟨_, rfl, _, rfl, _, _, rfl, rfl, (by show (0 : Int) < 7; decide), L, _, d % 7, .str x, rfl, rfl, SqL.of hL2, hx, ?_⟩
      refine ⟨_, rfl, x, bs, rfl, hb, fun lb H3 s3 n3 h3 => ?_⟩
      have hbl : bs.length ≤ 2 := by rcases hbs with rfl | ⟨b, c, rfl, _⟩ <;> simp
      have hbp : ∀ j, j < bs.length → 0 < bs.getD j 1 ∧ (bs.map V.int)[j]? = some (.int (bs.getD j 1)) := fun j hj => by
        rcases hbs with rfl | ⟨b, c, rfl, h1, h2⟩
        · cases hj
        · have : j = 0 ∨ j = 1 := by simp at hj; omega
          rcases this with rfl | rfl
          · exact ⟨h1, rfl⟩
          · exact ⟨h2, rfl⟩
      refine ⟨_, rfl, lb, _, rfl, .inl (SqL.of h3), _, rfl, by rw [List.length_map]; omega, by rw [List.length_map]; omega, ?_⟩
      rw [Int.toNat_natCast, List.length_map]
      refine compW_of (n := bs.length) (fun j ys H' => H' = H3 ∧ ys = (drawnV c bs j).map V.int) ?_ ⟨rfl, rfl⟩ ?_ ?_ ?_ ?_ ?_
      · exact Nat.le_of_lt (small1000 (by omega))
      · rintro j ys H' ⟨_, rfl⟩
        unfold drawnV
        rw [List.length_map, List.length_map, List.length_range]
        exact Nat.le_refl _
      · rintro j ys H' hj _
        exact hj
      · rintro ys H' _
        exact Nat.le_refl _
      · rintro j ys H' hj ⟨rfl, rfl⟩ y H'' ⟨eH, ey⟩
        subst eH
        subst ey
        dsimp only [gName, tYes]
        rw [if_pos rfl]
        obtain ⟨hp, hg⟩ := hbp j hj
        refine ⟨_, rfl, _, rfl, a, _, _, .int c, rfl, rfl, (s2.trans s3).seq hS, hat, _, rfl, _, _, rfl, rfl, c, 5 + (0 + (j : Int)), rfl, ?_⟩
        refine ⟨_, rfl, _, rfl, lb, _, 0 + (j : Int), .int (bs.getD j 1), rfl, rfl, SqL.of h3, by rw [Int.zero_add]; exact atI_nat hg, _, _, rfl, rfl, hp, ?_⟩
        refine ⟨rfl, ?_⟩
        unfold drawnV
        rw [List.range_succ, List.map_append, List.map_append, Int.zero_add]
        rfl
      · rintro ys H' ⟨rfl, rfl⟩
        refine ⟨?_, fun lp np => ?_⟩
        · unfold drawnV
          rw [List.length_map, List.length_map, List.length_range, sizeLine_eq]
          omega
        have s4 : Same H' (upd H' lp (.lst ((drawnV c bs bs.length).map V.int))) := same_new (Same.refl _) np
        have hp4 : upd H' lp (.lst ((drawnV c bs bs.length).map V.int)) lp = some (.lst ((drawnV c bs bs.length).map V.int)) := upd_same
        have nlpH : H lp = none := (s2.trans s3).free np
        have nlpL : L ≠ lp := ne_of_none (s3 _ _ hL2) np
        have nlpb : lb ≠ lp := ne_of_none h3 np
        have hb4 := s4 _ _ h3
        have hL4 := s4 _ _ (s3 _ _ hL2)
        have sm4 := s2.trans (s3.trans s4)
        generalize upd H' lp (.lst ((drawnV c bs bs.length).map V.int)) = H4 at s4 hp4 hb4 hL4 sm4
        have p60 : (0 : Int) < 10 ^ (60 : Int).toNat := Int.pow_pos (by decide)
        rcases hbs with rfl | ⟨b, c', rfl, hb1, hb2⟩
        · refine ⟨_, rfl, rfl, _, rfl, iteD (fun z => ?_) (fun _ => iteF ?_)⟩
          · have := hput (str_inj z)
            cases this
          change H4 lp = some (.lst (([] : List Int).map V.int)) at hp4
          exact useU _ L lp lb x _ _ d ([] : List Int) [] H4 hp4 (by decide) hb4 hb (step_nil hb) (fun H' ta h => ⟨h, ⟨([] : List Int), hb, rfl⟩, (by simp), (by simp)⟩) d0 fun td H' q => ⟨⟨_, _, _, _, _, _, rfl⟩, sm4.trans q, q _ _ hL4⟩
        · have hp4' : H4 lp = some (.lst ([mixedM c 5 % b, mixedM c 6 % c'].map V.int)) := hp4
          have r1 : 0 ≤ mixedM c 5 % b ∧ mixedM c 5 % b < b := ⟨Int.emod_nonneg _ (by omega), Int.emod_lt_of_pos _ hb1⟩
          have r2 : 0 ≤ mixedM c 6 % c' ∧ mixedM c 6 % c' < c' := ⟨Int.emod_nonneg _ (by omega), Int.emod_lt_of_pos _ hb2⟩
          clear hp4
          generalize mixedM c 5 % b = v0 at hp4' r1
          generalize mixedM c 6 % c' = v1 at hp4' r2
          refine ⟨_, rfl, rfl, _, rfl, iteD (fun z => ?_) (fun _ => iteF ?_)⟩
          · refine ⟨_, rfl, _, _, rfl, rfl, (by show (0 : Int) < 2; decide), rfl, _, rfl, iteD (fun _ => ?_) (fun _ => ?_)⟩
            · have hx : x = "put" := str_inj z
              have hbb := hput hx
              injection hbb with hb4e hcc
              injection hcc with hcc _
              refine ⟨_, rfl, _, rfl, a, _, _, .int c, rfl, rfl, sm4.seq hS, hat, _, _, rfl, rfl, ⟨by decide, by decide, by decide⟩, _, _, rfl, rfl, p60, _, rfl, lp, _, 1, 1, rfl, rfl, hp4', rfl, ?_⟩
              have r3 : 0 ≤ c % 10 ^ (60 : Int).toNat ∧ c % 10 ^ (60 : Int).toNat < c' := by
                refine ⟨Int.emod_nonneg _ (by omega), ?_⟩
                rw [hcc]
                exact Int.emod_lt_of_pos _ p60
              have hp5 : upd H4 lp (.lst (([v0, v1].map V.int).set 1 (.int (c % 10 ^ (60 : Int).toNat)))) lp = some (.lst ([v0, c % 10 ^ (60 : Int).toNat].map V.int)) := upd_same
              have hb5 : upd H4 lp (.lst (([v0, v1].map V.int).set 1 (.int (c % 10 ^ (60 : Int).toNat)))) lb = some (.lst ([b, c'].map V.int)) := by rw [upd_ne nlpb]; exact hb4
              have hL5 : upd H4 lp (.lst (([v0, v1].map V.int).set 1 (.int (c % 10 ^ (60 : Int).toNat)))) L = some (.lst wordsV) := by rw [upd_ne nlpL]; exact hL4
              have sm5 : Same H (upd H4 lp (.lst (([v0, v1].map V.int).set 1 (.int (c % 10 ^ (60 : Int).toNat))))) := fun b o e => by
                rw [upd_ne (ne_of_none e nlpH)]; exact sm4 _ _ e
              change (tU _ _ (upd H4 lp (.lst (([v0, v1].map V.int).set 1 (.int (c % 10 ^ (60 : Int).toNat))))))
              generalize c % 10 ^ (60 : Int).toNat = w1 at r3 hp5 hb5 hL5 sm5
              generalize upd H4 lp (.lst (([v0, v1].map V.int).set 1 (.int w1))) = H5 at hp5 hb5 hL5 sm5
              exact useU _ L lp lb x _ _ d [v0, w1] [b, c'] H5 hp5 (by show 2 ≤ 2; decide) hb5 hb (step_two hb r1 r3) (fun H' ta h => ⟨h, ⟨[b, c'], hb, rfl⟩, (by simp), (by simp)⟩) d0 fun td H' q => ⟨⟨_, _, _, _, _, _, rfl⟩, sm5.trans q, q _ _ hL5⟩
            · exact useU _ L lp lb x _ _ d [v0, v1] [b, c'] H4 hp4' (by show 2 ≤ 2; decide) hb4 hb (step_two hb r1 r2) (fun H' ta h => ⟨h, ⟨[b, c'], hb, rfl⟩, (by simp), (by simp)⟩) d0 fun td H' q => ⟨⟨_, _, _, _, _, _, rfl⟩, sm4.trans q, q _ _ hL4⟩
          · exact useU _ L lp lb x _ _ d [v0, v1] [b, c'] H4 hp4' (by show 2 ≤ 2; decide) hb4 hb (step_two hb r1 r2) (fun H' ta h => ⟨h, ⟨[b, c'], hb, rfl⟩, (by simp), (by simp)⟩) d0 fun td H' q => ⟨⟨_, _, _, _, _, _, rfl⟩, sm4.trans q, q _ _ hL4⟩
    · rintro σ H2 ⟨⟨kk, dr, wd, bh, pt, td, rfl⟩, _⟩
      exact k H2
end
end TL


namespace TL
open PySem PySem.Spec PyProof.Rows PySem.SeqAt L2 L3
theorem lenL1 {us : List Value} (h : us.length = 1) : ∃ a, us = [a] := List.length_eq_one_iff.mp h
theorem lenL2 {us : List Value} (h : us.length = 2) : ∃ a b, us = [a, b] := len_two h
theorem lenL3 {us : List Value} (h : us.length = 3) : ∃ a b c, us = [a, b, c] := by
  cases us with
  | nil => cases h
  | cons a t =>
    obtain ⟨b, c, e⟩ := len_two (show t.length = 2 from Nat.succ.inj h)
    exact ⟨a, b, c, by rw [e]⟩

theorem all_mk {l : PySem.W.OpenLaw} {w : World} {K : PySem.W.Frag} {h : Heap} {mg : Str → Option Value} {fa cStep cPut cAdd cSet cLook cSwap cSkip cClear fW fB fS fO fI fPut fAdd fSet fLook fSwap fSkip fTold0 fNexts fSets0 fLooks0 fEmpt0 fSetSets fLookLooks fSwapSets fSwapLooks fSwapEmpt fClearEmpt fSkipNexts fM fR fLB fG fSp fLaw xEr xNo : Addr} (X : K.In h) (G : h.Ns mainGlobals mg) (hfa : mg "law" = some (.ref fa))
    {odW odB odS odO odI odPut odAdd odSet odLook odSwap odSkip odTold0 odNexts odSets0 odLooks0 odEmpt0 odSetSets odLookLooks odSwapSets odSwapLooks odSwapEmpt odClearEmpt odSkipNexts odM odR odLB odG odSp odLaw anW anB anS anO anI anPut anAdd anSet anLook anSwap anSkip anTold0 anNexts anSets0 anLooks0 anEmpt0 anSetSets anLookLooks anSwapSets anSwapLooks anSwapEmpt anClearEmpt anSkipNexts anM anR anLB anG anSp anLaw : Option Addr} {slW slB slS slO slI slPut slAdd slSet slLook slSwap slSkip slTold0 slNexts slSets0 slLooks0 slEmpt0 slSetSets slLookLooks slSwapSets slSwapLooks slSwapEmpt slClearEmpt slSkipNexts slM slR slLB slG slSp slLaw : Array (Option Value)} {ocW ocB ocS ocO ocI ocPut ocAdd ocSet ocLook ocSwap ocSkip ocTold0 ocNexts ocSets0 ocLooks0 ocEmpt0 ocSetSets ocLookLooks ocSwapSets ocSwapLooks ocSwapEmpt ocClearEmpt ocSkipNexts ocM ocR ocLB ocG ocSp ocLaw kVW kVB kVS kVO kVI kVPut kVAdd kVSet kVLook kVSwap kVSkip kVTold0 kVNexts kVSets0 kVLooks0 kVEmpt0 kVSetSets kVLookLooks kVSwapSets kVSwapLooks kVSwapEmpt kVClearEmpt kVSkipNexts kVM kVR kVLB kVG kVSp kVLaw dcW dcB dcS dcO dcI dcPut dcAdd dcSet dcLook dcSwap dcSkip dcTold0 dcNexts dcSets0 dcLooks0 dcEmpt0 dcSetSets dcLookLooks dcSwapSets dcSwapLooks dcSwapEmpt dcClearEmpt dcSkipNexts dcM dcR dcLB dcG dcSp dcLaw pmW pmB pmS pmO pmI pmPut pmAdd pmSet pmLook pmSwap pmSkip pmTold0 pmNexts pmSets0 pmLooks0 pmEmpt0 pmSetSets pmLookLooks pmSwapSets pmSwapLooks pmSwapEmpt pmClearEmpt pmSkipNexts pmM pmR pmLB pmG pmSp pmLaw ctW ctB ctS ctO ctI ctPut ctAdd ctSet ctLook ctSwap ctSkip ctTold0 ctNexts ctSets0 ctLooks0 ctEmpt0 ctSetSets ctLookLooks ctSwapSets ctSwapLooks ctSwapEmpt ctClearEmpt ctSkipNexts ctM ctR ctLB ctG ctSp ctLaw cdW cdB cdS cdO cdI cdPut cdAdd cdSet cdLook cdSwap cdSkip cdTold0 cdNexts cdSets0 cdLooks0 cdEmpt0 cdSetSets cdLookLooks cdSwapSets cdSwapLooks cdSwapEmpt cdClearEmpt cdSkipNexts cdM cdR cdLB cdG cdSp cdLaw : Value} {t_TOP t_NAMES t_REGISTERS t_LONGEST : Tok}
    (aCStep : PySem.W.nsIn K mainGlobals "Step" = some (some (.ref cStep)))
    (aCPut : PySem.W.nsIn K mainGlobals "Put" = some (some (.ref cPut)))
    (aCAdd : PySem.W.nsIn K mainGlobals "Add" = some (some (.ref cAdd)))
    (aCSet : PySem.W.nsIn K mainGlobals "Set" = some (some (.ref cSet)))
    (aCLook : PySem.W.nsIn K mainGlobals "Look" = some (some (.ref cLook)))
    (aCSwap : PySem.W.nsIn K mainGlobals "Swap" = some (some (.ref cSwap)))
    (aCSkip : PySem.W.nsIn K mainGlobals "Skip" = some (some (.ref cSkip)))
    (aCClear : PySem.W.nsIn K mainGlobals "Clear" = some (some (.ref cClear)))
    (aW : PySem.W.nsIn K mainGlobals "is_whole" = some (some (.ref fW)))
    (lW : K.lookup fW = some ⟨ocW, odW, .func (PySem.W.fnOf "is_whole" "is_whole" (defArgs sWhole) (defBody sWhole) (defScope sWhole) .none kVW dcW pmW anW cdW ctW), slW⟩)
    (c_W : PySem.W.codeIn K cdW "is_whole" = true)
    (kW : PySem.W.keepIn K (.ref fW) = true)
    (aB : PySem.W.nsIn K mainGlobals "bounds_of" = some (some (.ref fB)))
    (lB : K.lookup fB = some ⟨ocB, odB, .func (PySem.W.fnOf "bounds_of" "bounds_of" (defArgs sBounds) (defBody sBounds) (defScope sBounds) .none kVB dcB pmB anB cdB ctB), slB⟩)
    (c_B : PySem.W.codeIn K cdB "bounds_of" = true)
    (kB : PySem.W.keepIn K (.ref fB) = true)
    (aS : PySem.W.nsIn K mainGlobals "is_step" = some (some (.ref fS)))
    (lS : K.lookup fS = some ⟨ocS, odS, .func (PySem.W.fnOf "is_step" "is_step" (defArgs sIsStep) (defBody sIsStep) (defScope sIsStep) .none kVS dcS pmS anS cdS ctS), slS⟩)
    (c_S : PySem.W.codeIn K cdS "is_step" = true)
    (kS : PySem.W.keepIn K (.ref fS) = true)
    (aO : PySem.W.nsIn K mainGlobals "step_of" = some (some (.ref fO)))
    (lO : K.lookup fO = some ⟨ocO, odO, .func (PySem.W.fnOf "step_of" "step_of" (defArgs sStepOf) (defBody sStepOf) (defScope sStepOf) .none kVO dcO pmO anO cdO ctO), slO⟩)
    (c_O : PySem.W.codeIn K cdO "step_of" = true)
    (kO : PySem.W.keepIn K (.ref fO) = true)
    (aI : PySem.W.findIn K (.ref cStep) "__init__" = some (some (.ref fI)))
    (lI : K.lookup fI = some ⟨ocI, odI, .func (PySem.W.fnOf "__init__" "Step.__init__" (defArgs sInit) (defBody sInit) (defScope sInit) .none kVI dcI pmI anI cdI ctI), slI⟩)
    (c_I : PySem.W.codeIn K cdI "Step.__init__" = true)
    (kI : PySem.W.keepIn K (.ref fI) = true)
    (iI : PySem.W.isFn K (.ref fI) = true)
    (aPut : PySem.W.findIn K (.ref cPut) "__init__" = some (some (.ref fPut)))
    (lPut : K.lookup fPut = some ⟨ocPut, odPut, .func (PySem.W.fnOf "__init__" "Put.__init__" (defArgs sPutI) (defBody sPutI) (defScope sPutI) .none kVPut dcPut pmPut anPut cdPut ctPut), slPut⟩)
    (c_Put : PySem.W.codeIn K cdPut "Put.__init__" = true)
    (kPut : PySem.W.keepIn K (.ref fPut) = true)
    (iPut : PySem.W.isFn K (.ref fPut) = true)
    (aAdd : PySem.W.findIn K (.ref cAdd) "__init__" = some (some (.ref fAdd)))
    (lAdd : K.lookup fAdd = some ⟨ocAdd, odAdd, .func (PySem.W.fnOf "__init__" "Add.__init__" (defArgs sAddI) (defBody sAddI) (defScope sAddI) .none kVAdd dcAdd pmAdd anAdd cdAdd ctAdd), slAdd⟩)
    (c_Add : PySem.W.codeIn K cdAdd "Add.__init__" = true)
    (kAdd : PySem.W.keepIn K (.ref fAdd) = true)
    (iAdd : PySem.W.isFn K (.ref fAdd) = true)
    (aSet : PySem.W.findIn K (.ref cSet) "__init__" = some (some (.ref fSet)))
    (lSet : K.lookup fSet = some ⟨ocSet, odSet, .func (PySem.W.fnOf "__init__" "Set.__init__" (defArgs sSetI) (defBody sSetI) (defScope sSetI) .none kVSet dcSet pmSet anSet cdSet ctSet), slSet⟩)
    (c_Set : PySem.W.codeIn K cdSet "Set.__init__" = true)
    (kSet : PySem.W.keepIn K (.ref fSet) = true)
    (iSet : PySem.W.isFn K (.ref fSet) = true)
    (aLook : PySem.W.findIn K (.ref cLook) "__init__" = some (some (.ref fLook)))
    (lLook : K.lookup fLook = some ⟨ocLook, odLook, .func (PySem.W.fnOf "__init__" "Look.__init__" (defArgs sLookI) (defBody sLookI) (defScope sLookI) .none kVLook dcLook pmLook anLook cdLook ctLook), slLook⟩)
    (c_Look : PySem.W.codeIn K cdLook "Look.__init__" = true)
    (kLook : PySem.W.keepIn K (.ref fLook) = true)
    (iLook : PySem.W.isFn K (.ref fLook) = true)
    (aSwap : PySem.W.findIn K (.ref cSwap) "__init__" = some (some (.ref fSwap)))
    (lSwap : K.lookup fSwap = some ⟨ocSwap, odSwap, .func (PySem.W.fnOf "__init__" "Swap.__init__" (defArgs sSwapI) (defBody sSwapI) (defScope sSwapI) .none kVSwap dcSwap pmSwap anSwap cdSwap ctSwap), slSwap⟩)
    (c_Swap : PySem.W.codeIn K cdSwap "Swap.__init__" = true)
    (kSwap : PySem.W.keepIn K (.ref fSwap) = true)
    (iSwap : PySem.W.isFn K (.ref fSwap) = true)
    (aSkip : PySem.W.findIn K (.ref cSkip) "__init__" = some (some (.ref fSkip)))
    (lSkip : K.lookup fSkip = some ⟨ocSkip, odSkip, .func (PySem.W.fnOf "__init__" "Skip.__init__" (defArgs sSkipI) (defBody sSkipI) (defScope sSkipI) .none kVSkip dcSkip pmSkip anSkip cdSkip ctSkip), slSkip⟩)
    (c_Skip : PySem.W.codeIn K cdSkip "Skip.__init__" = true)
    (kSkip : PySem.W.keepIn K (.ref fSkip) = true)
    (iSkip : PySem.W.isFn K (.ref fSkip) = true)
    (aTold0 : PySem.W.findIn K (.ref cStep) "told" = some (some (.ref fTold0)))
    (lTold0 : K.lookup fTold0 = some ⟨ocTold0, odTold0, .func (PySem.W.fnOf "told" "Step.told" (defArgs sTold0) (defBody sTold0) (defScope sTold0) .none kVTold0 dcTold0 pmTold0 anTold0 cdTold0 ctTold0), slTold0⟩)
    (c_Told0 : PySem.W.codeIn K cdTold0 "Step.told" = true)
    (kTold0 : PySem.W.keepIn K (.ref fTold0) = true)
    (iTold0 : PySem.W.isFn K (.ref fTold0) = true)
    (aNexts : PySem.W.findIn K (.ref cStep) "nexts" = some (some (.ref fNexts)))
    (lNexts : K.lookup fNexts = some ⟨ocNexts, odNexts, .func (PySem.W.fnOf "nexts" "Step.nexts" (defArgs sNexts0) (defBody sNexts0) (defScope sNexts0) .none kVNexts dcNexts pmNexts anNexts cdNexts ctNexts), slNexts⟩)
    (c_Nexts : PySem.W.codeIn K cdNexts "Step.nexts" = true)
    (kNexts : PySem.W.keepIn K (.ref fNexts) = true)
    (iNexts : PySem.W.isFn K (.ref fNexts) = true)
    (aSets0 : PySem.W.findIn K (.ref cStep) "sets" = some (some (.ref fSets0)))
    (lSets0 : K.lookup fSets0 = some ⟨ocSets0, odSets0, .func (PySem.W.fnOf "sets" "Step.sets" (defArgs sSets0) (defBody sSets0) (defScope sSets0) .none kVSets0 dcSets0 pmSets0 anSets0 cdSets0 ctSets0), slSets0⟩)
    (c_Sets0 : PySem.W.codeIn K cdSets0 "Step.sets" = true)
    (kSets0 : PySem.W.keepIn K (.ref fSets0) = true)
    (iSets0 : PySem.W.isFn K (.ref fSets0) = true)
    (aLooks0 : PySem.W.findIn K (.ref cStep) "looks" = some (some (.ref fLooks0)))
    (lLooks0 : K.lookup fLooks0 = some ⟨ocLooks0, odLooks0, .func (PySem.W.fnOf "looks" "Step.looks" (defArgs sLooks0) (defBody sLooks0) (defScope sLooks0) .none kVLooks0 dcLooks0 pmLooks0 anLooks0 cdLooks0 ctLooks0), slLooks0⟩)
    (c_Looks0 : PySem.W.codeIn K cdLooks0 "Step.looks" = true)
    (kLooks0 : PySem.W.keepIn K (.ref fLooks0) = true)
    (iLooks0 : PySem.W.isFn K (.ref fLooks0) = true)
    (aEmpt0 : PySem.W.findIn K (.ref cStep) "empties" = some (some (.ref fEmpt0)))
    (lEmpt0 : K.lookup fEmpt0 = some ⟨ocEmpt0, odEmpt0, .func (PySem.W.fnOf "empties" "Step.empties" (defArgs sEmpt0) (defBody sEmpt0) (defScope sEmpt0) .none kVEmpt0 dcEmpt0 pmEmpt0 anEmpt0 cdEmpt0 ctEmpt0), slEmpt0⟩)
    (c_Empt0 : PySem.W.codeIn K cdEmpt0 "Step.empties" = true)
    (kEmpt0 : PySem.W.keepIn K (.ref fEmpt0) = true)
    (iEmpt0 : PySem.W.isFn K (.ref fEmpt0) = true)
    (aSetSets : PySem.W.findIn K (.ref cSet) "sets" = some (some (.ref fSetSets)))
    (lSetSets : K.lookup fSetSets = some ⟨ocSetSets, odSetSets, .func (PySem.W.fnOf "sets" "Set.sets" (defArgs sSetSets) (defBody sSetSets) (defScope sSetSets) .none kVSetSets dcSetSets pmSetSets anSetSets cdSetSets ctSetSets), slSetSets⟩)
    (c_SetSets : PySem.W.codeIn K cdSetSets "Set.sets" = true)
    (kSetSets : PySem.W.keepIn K (.ref fSetSets) = true)
    (iSetSets : PySem.W.isFn K (.ref fSetSets) = true)
    (aLookLooks : PySem.W.findIn K (.ref cLook) "looks" = some (some (.ref fLookLooks)))
    (lLookLooks : K.lookup fLookLooks = some ⟨ocLookLooks, odLookLooks, .func (PySem.W.fnOf "looks" "Look.looks" (defArgs sLookLooks) (defBody sLookLooks) (defScope sLookLooks) .none kVLookLooks dcLookLooks pmLookLooks anLookLooks cdLookLooks ctLookLooks), slLookLooks⟩)
    (c_LookLooks : PySem.W.codeIn K cdLookLooks "Look.looks" = true)
    (kLookLooks : PySem.W.keepIn K (.ref fLookLooks) = true)
    (iLookLooks : PySem.W.isFn K (.ref fLookLooks) = true)
    (aSwapSets : PySem.W.findIn K (.ref cSwap) "sets" = some (some (.ref fSwapSets)))
    (lSwapSets : K.lookup fSwapSets = some ⟨ocSwapSets, odSwapSets, .func (PySem.W.fnOf "sets" "Swap.sets" (defArgs sSwapSets) (defBody sSwapSets) (defScope sSwapSets) .none kVSwapSets dcSwapSets pmSwapSets anSwapSets cdSwapSets ctSwapSets), slSwapSets⟩)
    (c_SwapSets : PySem.W.codeIn K cdSwapSets "Swap.sets" = true)
    (kSwapSets : PySem.W.keepIn K (.ref fSwapSets) = true)
    (iSwapSets : PySem.W.isFn K (.ref fSwapSets) = true)
    (aSwapLooks : PySem.W.findIn K (.ref cSwap) "looks" = some (some (.ref fSwapLooks)))
    (lSwapLooks : K.lookup fSwapLooks = some ⟨ocSwapLooks, odSwapLooks, .func (PySem.W.fnOf "looks" "Swap.looks" (defArgs sSwapLooks) (defBody sSwapLooks) (defScope sSwapLooks) .none kVSwapLooks dcSwapLooks pmSwapLooks anSwapLooks cdSwapLooks ctSwapLooks), slSwapLooks⟩)
    (c_SwapLooks : PySem.W.codeIn K cdSwapLooks "Swap.looks" = true)
    (kSwapLooks : PySem.W.keepIn K (.ref fSwapLooks) = true)
    (iSwapLooks : PySem.W.isFn K (.ref fSwapLooks) = true)
    (aSwapEmpt : PySem.W.findIn K (.ref cSwap) "empties" = some (some (.ref fSwapEmpt)))
    (lSwapEmpt : K.lookup fSwapEmpt = some ⟨ocSwapEmpt, odSwapEmpt, .func (PySem.W.fnOf "empties" "Swap.empties" (defArgs sSwapEmpt) (defBody sSwapEmpt) (defScope sSwapEmpt) .none kVSwapEmpt dcSwapEmpt pmSwapEmpt anSwapEmpt cdSwapEmpt ctSwapEmpt), slSwapEmpt⟩)
    (c_SwapEmpt : PySem.W.codeIn K cdSwapEmpt "Swap.empties" = true)
    (kSwapEmpt : PySem.W.keepIn K (.ref fSwapEmpt) = true)
    (iSwapEmpt : PySem.W.isFn K (.ref fSwapEmpt) = true)
    (aClearEmpt : PySem.W.findIn K (.ref cClear) "empties" = some (some (.ref fClearEmpt)))
    (lClearEmpt : K.lookup fClearEmpt = some ⟨ocClearEmpt, odClearEmpt, .func (PySem.W.fnOf "empties" "Clear.empties" (defArgs sClearEmpt) (defBody sClearEmpt) (defScope sClearEmpt) .none kVClearEmpt dcClearEmpt pmClearEmpt anClearEmpt cdClearEmpt ctClearEmpt), slClearEmpt⟩)
    (c_ClearEmpt : PySem.W.codeIn K cdClearEmpt "Clear.empties" = true)
    (kClearEmpt : PySem.W.keepIn K (.ref fClearEmpt) = true)
    (iClearEmpt : PySem.W.isFn K (.ref fClearEmpt) = true)
    (aSkipNexts : PySem.W.findIn K (.ref cSkip) "nexts" = some (some (.ref fSkipNexts)))
    (lSkipNexts : K.lookup fSkipNexts = some ⟨ocSkipNexts, odSkipNexts, .func (PySem.W.fnOf "nexts" "Skip.nexts" (defArgs sSkipNexts) (defBody sSkipNexts) (defScope sSkipNexts) .none kVSkipNexts dcSkipNexts pmSkipNexts anSkipNexts cdSkipNexts ctSkipNexts), slSkipNexts⟩)
    (c_SkipNexts : PySem.W.codeIn K cdSkipNexts "Skip.nexts" = true)
    (kSkipNexts : PySem.W.keepIn K (.ref fSkipNexts) = true)
    (iSkipNexts : PySem.W.isFn K (.ref fSkipNexts) = true)
    (aM : PySem.W.nsIn K mainGlobals "_law_mixed" = some (some (.ref fM)))
    (lM : K.lookup fM = some ⟨ocM, odM, .func (PySem.W.fnOf "_law_mixed" "_law_mixed" (defArgs sMixed) (defBody sMixed) (defScope sMixed) .none kVM dcM pmM anM cdM ctM), slM⟩)
    (c_M : PySem.W.codeIn K cdM "_law_mixed" = true)
    (kM : PySem.W.keepIn K (.ref fM) = true)
    (aR : PySem.W.nsIn K mainGlobals "_law_refused" = some (some (.ref fR)))
    (lR : K.lookup fR = some ⟨ocR, odR, .func (PySem.W.fnOf "_law_refused" "_law_refused" (defArgs sRefused) (defBody sRefused) (defScope sRefused) .none kVR dcR pmR anR cdR ctR), slR⟩)
    (c_R : PySem.W.codeIn K cdR "_law_refused" = true)
    (kR : PySem.W.keepIn K (.ref fR) = true)
    (aLB : PySem.W.nsIn K mainGlobals "_law_bounds" = some (some (.ref fLB)))
    (lLB : K.lookup fLB = some ⟨ocLB, odLB, .func (PySem.W.fnOf "_law_bounds" "_law_bounds" (defArgs sLBounds) (defBody sLBounds) (defScope sLBounds) .none kVLB dcLB pmLB anLB cdLB ctLB), slLB⟩)
    (c_LB : PySem.W.codeIn K cdLB "_law_bounds" = true)
    (kLB : PySem.W.keepIn K (.ref fLB) = true)
    (aG : PySem.W.nsIn K mainGlobals "_law_good" = some (some (.ref fG)))
    (lG : K.lookup fG = some ⟨ocG, odG, .func (PySem.W.fnOf "_law_good" "_law_good" (defArgs sGood) (defBody sGood) (defScope sGood) .none kVG dcG pmG anG cdG ctG), slG⟩)
    (c_G : PySem.W.codeIn K cdG "_law_good" = true)
    (kG : PySem.W.keepIn K (.ref fG) = true)
    (aSp : PySem.W.nsIn K mainGlobals "_law_spoilt" = some (some (.ref fSp)))
    (lSp : K.lookup fSp = some ⟨ocSp, odSp, .func (PySem.W.fnOf "_law_spoilt" "_law_spoilt" (defArgs sSpoilt) (defBody sSpoilt) (defScope sSpoilt) .none kVSp dcSp pmSp anSp cdSp ctSp), slSp⟩)
    (c_Sp : PySem.W.codeIn K cdSp "_law_spoilt" = true)
    (kSp : PySem.W.keepIn K (.ref fSp) = true)
    (aLaw : PySem.W.nsIn K mainGlobals "law" = some (some (.ref fLaw)))
    (lLaw : K.lookup fLaw = some ⟨ocLaw, odLaw, .func (PySem.W.fnOf "law" "law" (defArgs sLaw) (defBody sLaw) (defScope sLaw) .none kVLaw dcLaw pmLaw anLaw cdLaw ctLaw), slLaw⟩)
    (c_Law : PySem.W.codeIn K cdLaw "law" = true)
    (kLaw : PySem.W.keepIn K (.ref fLaw) = true)
    (pgStep : PySem.W.plainGet K cStep Str.empty = true)
    (hdStep : PySem.W.hasDictIn K cStep = true)
    (poStep : PySem.W.plainOver K cStep = true)
    (saStep : PySem.W.findIn K (.ref cStep) "__setattr__" = some (some (.builtin "object.__setattr__")))
    (pgPut : PySem.W.plainGet K cPut Str.empty = true)
    (hdPut : PySem.W.hasDictIn K cPut = true)
    (poPut : PySem.W.plainOver K cPut = true)
    (saPut : PySem.W.findIn K (.ref cPut) "__setattr__" = some (some (.builtin "object.__setattr__")))
    (mkPut : PySem.W.makesIn K cPut = true)
    (kcPut : PySem.W.keepIn K (.ref cPut) = true)
    (nPut_parts : PySem.W.findIn K (.ref cPut) "parts" = some none)
    (nPut_reg : PySem.W.findIn K (.ref cPut) "reg" = some none)
    (nPut_number : PySem.W.findIn K (.ref cPut) "number" = some none)
    (pgAdd : PySem.W.plainGet K cAdd Str.empty = true)
    (hdAdd : PySem.W.hasDictIn K cAdd = true)
    (poAdd : PySem.W.plainOver K cAdd = true)
    (saAdd : PySem.W.findIn K (.ref cAdd) "__setattr__" = some (some (.builtin "object.__setattr__")))
    (mkAdd : PySem.W.makesIn K cAdd = true)
    (kcAdd : PySem.W.keepIn K (.ref cAdd) = true)
    (nAdd_parts : PySem.W.findIn K (.ref cAdd) "parts" = some none)
    (nAdd_reg : PySem.W.findIn K (.ref cAdd) "reg" = some none)
    (nAdd_other : PySem.W.findIn K (.ref cAdd) "other" = some none)
    (pgSet : PySem.W.plainGet K cSet Str.empty = true)
    (hdSet : PySem.W.hasDictIn K cSet = true)
    (poSet : PySem.W.plainOver K cSet = true)
    (saSet : PySem.W.findIn K (.ref cSet) "__setattr__" = some (some (.builtin "object.__setattr__")))
    (mkSet : PySem.W.makesIn K cSet = true)
    (kcSet : PySem.W.keepIn K (.ref cSet) = true)
    (nSet_parts : PySem.W.findIn K (.ref cSet) "parts" = some none)
    (nSet_name : PySem.W.findIn K (.ref cSet) "name" = some none)
    (nSet_reg : PySem.W.findIn K (.ref cSet) "reg" = some none)
    (pgLook : PySem.W.plainGet K cLook Str.empty = true)
    (hdLook : PySem.W.hasDictIn K cLook = true)
    (poLook : PySem.W.plainOver K cLook = true)
    (saLook : PySem.W.findIn K (.ref cLook) "__setattr__" = some (some (.builtin "object.__setattr__")))
    (mkLook : PySem.W.makesIn K cLook = true)
    (kcLook : PySem.W.keepIn K (.ref cLook) = true)
    (nLook_parts : PySem.W.findIn K (.ref cLook) "parts" = some none)
    (nLook_reg : PySem.W.findIn K (.ref cLook) "reg" = some none)
    (nLook_name : PySem.W.findIn K (.ref cLook) "name" = some none)
    (pgSwap : PySem.W.plainGet K cSwap Str.empty = true)
    (hdSwap : PySem.W.hasDictIn K cSwap = true)
    (poSwap : PySem.W.plainOver K cSwap = true)
    (saSwap : PySem.W.findIn K (.ref cSwap) "__setattr__" = some (some (.builtin "object.__setattr__")))
    (mkSwap : PySem.W.makesIn K cSwap = true)
    (kcSwap : PySem.W.keepIn K (.ref cSwap) = true)
    (nSwap_parts : PySem.W.findIn K (.ref cSwap) "parts" = some none)
    (nSwap_reg : PySem.W.findIn K (.ref cSwap) "reg" = some none)
    (nSwap_name : PySem.W.findIn K (.ref cSwap) "name" = some none)
    (pgSkip : PySem.W.plainGet K cSkip Str.empty = true)
    (hdSkip : PySem.W.hasDictIn K cSkip = true)
    (poSkip : PySem.W.plainOver K cSkip = true)
    (saSkip : PySem.W.findIn K (.ref cSkip) "__setattr__" = some (some (.builtin "object.__setattr__")))
    (mkSkip : PySem.W.makesIn K cSkip = true)
    (kcSkip : PySem.W.keepIn K (.ref cSkip) = true)
    (nSkip_parts : PySem.W.findIn K (.ref cSkip) "parts" = some none)
    (nSkip_reg : PySem.W.findIn K (.ref cSkip) "reg" = some none)
    (nSkip_place : PySem.W.findIn K (.ref cSkip) "place" = some none)
    (pgClear : PySem.W.plainGet K cClear Str.empty = true)
    (hdClear : PySem.W.hasDictIn K cClear = true)
    (poClear : PySem.W.plainOver K cClear = true)
    (saClear : PySem.W.findIn K (.ref cClear) "__setattr__" = some (some (.builtin "object.__setattr__")))
    (mkClear : PySem.W.makesIn K cClear = true)
    (kcClear : PySem.W.keepIn K (.ref cClear) = true)
    (nClear_parts : PySem.W.findIn K (.ref cClear) "parts" = some none)
    (mPut_told : PySem.W.findIn K (.ref cPut) "told" = some (some (.ref fTold0)))
    (mPut_nexts : PySem.W.findIn K (.ref cPut) "nexts" = some (some (.ref fNexts)))
    (mPut_sets : PySem.W.findIn K (.ref cPut) "sets" = some (some (.ref fSets0)))
    (mPut_looks : PySem.W.findIn K (.ref cPut) "looks" = some (some (.ref fLooks0)))
    (mPut_empties : PySem.W.findIn K (.ref cPut) "empties" = some (some (.ref fEmpt0)))
    (mAdd_told : PySem.W.findIn K (.ref cAdd) "told" = some (some (.ref fTold0)))
    (mAdd_nexts : PySem.W.findIn K (.ref cAdd) "nexts" = some (some (.ref fNexts)))
    (mAdd_sets : PySem.W.findIn K (.ref cAdd) "sets" = some (some (.ref fSets0)))
    (mAdd_looks : PySem.W.findIn K (.ref cAdd) "looks" = some (some (.ref fLooks0)))
    (mAdd_empties : PySem.W.findIn K (.ref cAdd) "empties" = some (some (.ref fEmpt0)))
    (mSet_told : PySem.W.findIn K (.ref cSet) "told" = some (some (.ref fTold0)))
    (mSet_nexts : PySem.W.findIn K (.ref cSet) "nexts" = some (some (.ref fNexts)))
    (mSet_sets : PySem.W.findIn K (.ref cSet) "sets" = some (some (.ref fSetSets)))
    (mSet_looks : PySem.W.findIn K (.ref cSet) "looks" = some (some (.ref fLooks0)))
    (mSet_empties : PySem.W.findIn K (.ref cSet) "empties" = some (some (.ref fEmpt0)))
    (mLook_told : PySem.W.findIn K (.ref cLook) "told" = some (some (.ref fTold0)))
    (mLook_nexts : PySem.W.findIn K (.ref cLook) "nexts" = some (some (.ref fNexts)))
    (mLook_sets : PySem.W.findIn K (.ref cLook) "sets" = some (some (.ref fSets0)))
    (mLook_looks : PySem.W.findIn K (.ref cLook) "looks" = some (some (.ref fLookLooks)))
    (mLook_empties : PySem.W.findIn K (.ref cLook) "empties" = some (some (.ref fEmpt0)))
    (mSwap_told : PySem.W.findIn K (.ref cSwap) "told" = some (some (.ref fTold0)))
    (mSwap_nexts : PySem.W.findIn K (.ref cSwap) "nexts" = some (some (.ref fNexts)))
    (mSwap_sets : PySem.W.findIn K (.ref cSwap) "sets" = some (some (.ref fSwapSets)))
    (mSwap_looks : PySem.W.findIn K (.ref cSwap) "looks" = some (some (.ref fSwapLooks)))
    (mSwap_empties : PySem.W.findIn K (.ref cSwap) "empties" = some (some (.ref fSwapEmpt)))
    (mClear_told : PySem.W.findIn K (.ref cClear) "told" = some (some (.ref fTold0)))
    (mClear_nexts : PySem.W.findIn K (.ref cClear) "nexts" = some (some (.ref fNexts)))
    (mClear_sets : PySem.W.findIn K (.ref cClear) "sets" = some (some (.ref fSets0)))
    (mClear_looks : PySem.W.findIn K (.ref cClear) "looks" = some (some (.ref fLooks0)))
    (mClear_empties : PySem.W.findIn K (.ref cClear) "empties" = some (some (.ref fClearEmpt)))
    (mSkip_told : PySem.W.findIn K (.ref cSkip) "told" = some (some (.ref fTold0)))
    (mSkip_nexts : PySem.W.findIn K (.ref cSkip) "nexts" = some (some (.ref fSkipNexts)))
    (mSkip_sets : PySem.W.findIn K (.ref cSkip) "sets" = some (some (.ref fSets0)))
    (mSkip_looks : PySem.W.findIn K (.ref cSkip) "looks" = some (some (.ref fLooks0)))
    (mSkip_empties : PySem.W.findIn K (.ref cSkip) "empties" = some (some (.ref fEmpt0)))
    (inPut : PySem.W.findIn K (.ref cPut) "__init__" = some (some (.ref fPut)))
    (inAdd : PySem.W.findIn K (.ref cAdd) "__init__" = some (some (.ref fAdd)))
    (inSet : PySem.W.findIn K (.ref cSet) "__init__" = some (some (.ref fSet)))
    (inLook : PySem.W.findIn K (.ref cLook) "__init__" = some (some (.ref fLook)))
    (inSwap : PySem.W.findIn K (.ref cSwap) "__init__" = some (some (.ref fSwap)))
    (inSkip : PySem.W.findIn K (.ref cSkip) "__init__" = some (some (.ref fSkip)))
    (inClear : PySem.W.findIn K (.ref cClear) "__init__" = some (some (.ref fI)))
    (spStep : PySem.W.specialIn K (.ref cStep) "__getattribute__" = some (some (.builtin "type.__getattribute__")))
    (rdStep : PySem.W.readsIn K cStep (.type "type") = true)
    (fcStep___init__ : PySem.W.findCls K (.ref cStep) (.type "type") "__init__" = some (.val (.ref fI)))
    (z_isinstance : PySem.W.nsIn K mainGlobals "isinstance" = some none)
    (z_int : PySem.W.nsIn K mainGlobals "int" = some none)
    (z_bool : PySem.W.nsIn K mainGlobals "bool" = some none)
    (z_str : PySem.W.nsIn K mainGlobals "str" = some none)
    (z_tuple : PySem.W.nsIn K mainGlobals "tuple" = some none)
    (z_len : PySem.W.nsIn K mainGlobals "len" = some none)
    (z_all : PySem.W.nsIn K mainGlobals "all" = some none)
    (z_zip : PySem.W.nsIn K mainGlobals "zip" = some none)
    (z_range : PySem.W.nsIn K mainGlobals "range" = some none)
    (z_list : PySem.W.nsIn K mainGlobals "list" = some none)
    (z_sorted : PySem.W.nsIn K mainGlobals "sorted" = some none)
    (z_set : PySem.W.nsIn K mainGlobals "set" = some none)
    (z_min : PySem.W.nsIn K mainGlobals "min" = some none)
    (z_ValueError : PySem.W.nsIn K mainGlobals "ValueError" = some none)
    (v_TOP : PySem.W.nsIn K mainGlobals "TOP" = some (some (.int TOPi t_TOP)))
    (v_NAMES : PySem.W.nsIn K mainGlobals "NAMES" = some (some (.int 12 t_NAMES)))
    (v_REGISTERS : PySem.W.nsIn K mainGlobals "REGISTERS" = some (some (.int 4 t_REGISTERS)))
    (v_LONGEST : PySem.W.nsIn K mainGlobals "LONGEST" = some (some (.int 120 t_LONGEST)))
    (xa_Er : PySem.W.nsIn K mainGlobals "TrayError" = some (some (.ref xEr)))
    (xa_No : PySem.W.nsIn K mainGlobals "NoStep" = some (some (.ref xNo)))
    (xe_No : PySem.W.excIn K xNo bmVE "ValueError.__new__" = true)
    (xk_No : PySem.W.keepIn K (.ref xNo) = true)
    (xs_No : PySem.W.kitCls K (.ref xNo) (.ref xNo) = some true)
    (xb_No : PySem.W.kitCls K (.ref xNo) (.type "BaseException") = some true)
    (xt_No : PySem.W.kitOne K (.ref xNo) (.ref xEr) = some true)
    (xv_No : PySem.W.kitOne K (.ref xNo) (.type "ValueError") = some true)
    : ∃ fd : FuncData, (∀ (s : Shared) (v : Value), BindsTo s fd ⟨[v], []⟩ [("_law_script", v)]) ∧ ∀ base : Heap, K.In base → base.Ns mainGlobals mg → FnOk l.prog w K mg base CX0 6 fa fd ["_law_script"] (spLaw K) := by
  have e := hfa.symm.trans (PySem.W.mg_of X G aLaw)
  cases e
  have FW := fun_mk (st := sWhole) lW c_W kW
  have bW := FW.binds (ps := ["thing"]) fun _ _ _ _ _ _ us hl => by obtain ⟨u0, e⟩ := lenL1 hl; subst e; rfl
  have gW := PySem.W.mg_of X G aW
  have FB := fun_mk (st := sBounds) lB c_B kB
  have bB := FB.binds (ps := ["word"]) fun _ _ _ _ _ _ us hl => by obtain ⟨u0, e⟩ := lenL1 hl; subst e; rfl
  have gB := PySem.W.mg_of X G aB
  have FS := fun_mk (st := sIsStep) lS c_S kS
  have bS := FS.binds (ps := ["told"]) fun _ _ _ _ _ _ us hl => by obtain ⟨u0, e⟩ := lenL1 hl; subst e; rfl
  have gS := PySem.W.mg_of X G aS
  have FO := fun_mk (st := sStepOf) lO c_O kO
  have bO := FO.binds (ps := ["told"]) fun _ _ _ _ _ _ us hl => by obtain ⟨u0, e⟩ := lenL1 hl; subst e; rfl
  have gO := PySem.W.mg_of X G aO
  have FI := fun_mk (st := sInit) lI c_I kI
  have bI := FI.binds (ps := ["self", "told"]) fun _ _ _ _ _ _ us hl => by obtain ⟨u0, u1, e⟩ := lenL2 hl; subst e; rfl
  have FPut := fun_mk (st := sPutI) lPut c_Put kPut
  have bPut := FPut.binds (ps := ["self", "told"]) fun _ _ _ _ _ _ us hl => by obtain ⟨u0, u1, e⟩ := lenL2 hl; subst e; rfl
  have FAdd := fun_mk (st := sAddI) lAdd c_Add kAdd
  have bAdd := FAdd.binds (ps := ["self", "told"]) fun _ _ _ _ _ _ us hl => by obtain ⟨u0, u1, e⟩ := lenL2 hl; subst e; rfl
  have FSet := fun_mk (st := sSetI) lSet c_Set kSet
  have bSet := FSet.binds (ps := ["self", "told"]) fun _ _ _ _ _ _ us hl => by obtain ⟨u0, u1, e⟩ := lenL2 hl; subst e; rfl
  have FLook := fun_mk (st := sLookI) lLook c_Look kLook
  have bLook := FLook.binds (ps := ["self", "told"]) fun _ _ _ _ _ _ us hl => by obtain ⟨u0, u1, e⟩ := lenL2 hl; subst e; rfl
  have FSwap := fun_mk (st := sSwapI) lSwap c_Swap kSwap
  have bSwap := FSwap.binds (ps := ["self", "told"]) fun _ _ _ _ _ _ us hl => by obtain ⟨u0, u1, e⟩ := lenL2 hl; subst e; rfl
  have FSkip := fun_mk (st := sSkipI) lSkip c_Skip kSkip
  have bSkip := FSkip.binds (ps := ["self", "told"]) fun _ _ _ _ _ _ us hl => by obtain ⟨u0, u1, e⟩ := lenL2 hl; subst e; rfl
  have FTold0 := fun_mk (st := sTold0) lTold0 c_Told0 kTold0
  have bTold0 := FTold0.binds (ps := ["self"]) fun _ _ _ _ _ _ us hl => by obtain ⟨u0, e⟩ := lenL1 hl; subst e; rfl
  have FNexts := fun_mk (st := sNexts0) lNexts c_Nexts kNexts
  have bNexts := FNexts.binds (ps := ["self", "place"]) fun _ _ _ _ _ _ us hl => by obtain ⟨u0, u1, e⟩ := lenL2 hl; subst e; rfl
  have FSets0 := fun_mk (st := sSets0) lSets0 c_Sets0 kSets0
  have bSets0 := FSets0.binds (ps := ["self"]) fun _ _ _ _ _ _ us hl => by obtain ⟨u0, e⟩ := lenL1 hl; subst e; rfl
  have FLooks0 := fun_mk (st := sLooks0) lLooks0 c_Looks0 kLooks0
  have bLooks0 := FLooks0.binds (ps := ["self"]) fun _ _ _ _ _ _ us hl => by obtain ⟨u0, e⟩ := lenL1 hl; subst e; rfl
  have FEmpt0 := fun_mk (st := sEmpt0) lEmpt0 c_Empt0 kEmpt0
  have bEmpt0 := FEmpt0.binds (ps := ["self"]) fun _ _ _ _ _ _ us hl => by obtain ⟨u0, e⟩ := lenL1 hl; subst e; rfl
  have FSetSets := fun_mk (st := sSetSets) lSetSets c_SetSets kSetSets
  have bSetSets := FSetSets.binds (ps := ["self"]) fun _ _ _ _ _ _ us hl => by obtain ⟨u0, e⟩ := lenL1 hl; subst e; rfl
  have FLookLooks := fun_mk (st := sLookLooks) lLookLooks c_LookLooks kLookLooks
  have bLookLooks := FLookLooks.binds (ps := ["self"]) fun _ _ _ _ _ _ us hl => by obtain ⟨u0, e⟩ := lenL1 hl; subst e; rfl
  have FSwapSets := fun_mk (st := sSwapSets) lSwapSets c_SwapSets kSwapSets
  have bSwapSets := FSwapSets.binds (ps := ["self"]) fun _ _ _ _ _ _ us hl => by obtain ⟨u0, e⟩ := lenL1 hl; subst e; rfl
  have FSwapLooks := fun_mk (st := sSwapLooks) lSwapLooks c_SwapLooks kSwapLooks
  have bSwapLooks := FSwapLooks.binds (ps := ["self"]) fun _ _ _ _ _ _ us hl => by obtain ⟨u0, e⟩ := lenL1 hl; subst e; rfl
  have FSwapEmpt := fun_mk (st := sSwapEmpt) lSwapEmpt c_SwapEmpt kSwapEmpt
  have bSwapEmpt := FSwapEmpt.binds (ps := ["self"]) fun _ _ _ _ _ _ us hl => by obtain ⟨u0, e⟩ := lenL1 hl; subst e; rfl
  have FClearEmpt := fun_mk (st := sClearEmpt) lClearEmpt c_ClearEmpt kClearEmpt
  have bClearEmpt := FClearEmpt.binds (ps := ["self"]) fun _ _ _ _ _ _ us hl => by obtain ⟨u0, e⟩ := lenL1 hl; subst e; rfl
  have FSkipNexts := fun_mk (st := sSkipNexts) lSkipNexts c_SkipNexts kSkipNexts
  have bSkipNexts := FSkipNexts.binds (ps := ["self", "place"]) fun _ _ _ _ _ _ us hl => by obtain ⟨u0, u1, e⟩ := lenL2 hl; subst e; rfl
  have FM := fun_mk (st := sMixed) lM c_M kM
  have bM := FM.binds (ps := ["_law_cell", "_law_k"]) fun _ _ _ _ _ _ us hl => by obtain ⟨u0, u1, e⟩ := lenL2 hl; subst e; rfl
  have gM := PySem.W.mg_of X G aM
  have FR := fun_mk (st := sRefused) lR c_R kR
  have bR := FR.binds (ps := ["_law_told"]) fun _ _ _ _ _ _ us hl => by obtain ⟨u0, e⟩ := lenL1 hl; subst e; rfl
  have gR := PySem.W.mg_of X G aR
  have FLB := fun_mk (st := sLBounds) lLB c_LB kLB
  have bLB := FLB.binds (ps := ["_law_word"]) fun _ _ _ _ _ _ us hl => by obtain ⟨u0, e⟩ := lenL1 hl; subst e; rfl
  have gLB := PySem.W.mg_of X G aLB
  have FG := fun_mk (st := sGood) lG c_G kG
  have bG := FG.binds (ps := ["_law_told", "_law_place"]) fun _ _ _ _ _ _ us hl => by obtain ⟨u0, u1, e⟩ := lenL2 hl; subst e; rfl
  have gG := PySem.W.mg_of X G aG
  have FSp := fun_mk (st := sSpoilt) lSp c_Sp kSp
  have bSp := FSp.binds (ps := ["_law_told", "_law_bounds_here", "_law_cell"]) fun _ _ _ _ _ _ us hl => by obtain ⟨u0, u1, u2, e⟩ := lenL3 hl; subst e; rfl
  have gSp := PySem.W.mg_of X G aSp
  have FLaw := fun_mk (st := sLaw) lLaw c_Law kLaw
  have gLaw := PySem.W.mg_of X G aLaw
  have gCStep := PySem.W.mg_of X G aCStep
  have clStep : Cls K cStep := ⟨pgStep, hdStep, poStep, saStep⟩
  have gCPut := PySem.W.mg_of X G aCPut
  have clPut : Cls K cPut := ⟨pgPut, hdPut, poPut, saPut⟩
  have gCAdd := PySem.W.mg_of X G aCAdd
  have clAdd : Cls K cAdd := ⟨pgAdd, hdAdd, poAdd, saAdd⟩
  have gCSet := PySem.W.mg_of X G aCSet
  have clSet : Cls K cSet := ⟨pgSet, hdSet, poSet, saSet⟩
  have gCLook := PySem.W.mg_of X G aCLook
  have clLook : Cls K cLook := ⟨pgLook, hdLook, poLook, saLook⟩
  have gCSwap := PySem.W.mg_of X G aCSwap
  have clSwap : Cls K cSwap := ⟨pgSwap, hdSwap, poSwap, saSwap⟩
  have gCSkip := PySem.W.mg_of X G aCSkip
  have clSkip : Cls K cSkip := ⟨pgSkip, hdSkip, poSkip, saSkip⟩
  have gCClear := PySem.W.mg_of X G aCClear
  have clClear : Cls K cClear := ⟨pgClear, hdClear, poClear, saClear⟩
  have MPut : Mk K cPut fPut := ⟨mkPut, inPut, iPut, kcPut⟩
  have MAdd : Mk K cAdd fAdd := ⟨mkAdd, inAdd, iAdd, kcAdd⟩
  have MSet : Mk K cSet fSet := ⟨mkSet, inSet, iSet, kcSet⟩
  have MLook : Mk K cLook fLook := ⟨mkLook, inLook, iLook, kcLook⟩
  have MSwap : Mk K cSwap fSwap := ⟨mkSwap, inSwap, iSwap, kcSwap⟩
  have MSkip : Mk K cSkip fSkip := ⟨mkSkip, inSkip, iSkip, kcSkip⟩
  have MClear : Mk K cClear fI := ⟨mkClear, inClear, iI, kcClear⟩
  have mePut_told : Meth K cPut "told" fTold0 := ⟨mPut_told, iTold0, kTold0⟩
  have mePut_nexts : Meth K cPut "nexts" fNexts := ⟨mPut_nexts, iNexts, kNexts⟩
  have mePut_sets : Meth K cPut "sets" fSets0 := ⟨mPut_sets, iSets0, kSets0⟩
  have mePut_looks : Meth K cPut "looks" fLooks0 := ⟨mPut_looks, iLooks0, kLooks0⟩
  have mePut_empties : Meth K cPut "empties" fEmpt0 := ⟨mPut_empties, iEmpt0, kEmpt0⟩
  have meAdd_told : Meth K cAdd "told" fTold0 := ⟨mAdd_told, iTold0, kTold0⟩
  have meAdd_nexts : Meth K cAdd "nexts" fNexts := ⟨mAdd_nexts, iNexts, kNexts⟩
  have meAdd_sets : Meth K cAdd "sets" fSets0 := ⟨mAdd_sets, iSets0, kSets0⟩
  have meAdd_looks : Meth K cAdd "looks" fLooks0 := ⟨mAdd_looks, iLooks0, kLooks0⟩
  have meAdd_empties : Meth K cAdd "empties" fEmpt0 := ⟨mAdd_empties, iEmpt0, kEmpt0⟩
  have meSet_told : Meth K cSet "told" fTold0 := ⟨mSet_told, iTold0, kTold0⟩
  have meSet_nexts : Meth K cSet "nexts" fNexts := ⟨mSet_nexts, iNexts, kNexts⟩
  have meSet_sets : Meth K cSet "sets" fSetSets := ⟨mSet_sets, iSetSets, kSetSets⟩
  have meSet_looks : Meth K cSet "looks" fLooks0 := ⟨mSet_looks, iLooks0, kLooks0⟩
  have meSet_empties : Meth K cSet "empties" fEmpt0 := ⟨mSet_empties, iEmpt0, kEmpt0⟩
  have meLook_told : Meth K cLook "told" fTold0 := ⟨mLook_told, iTold0, kTold0⟩
  have meLook_nexts : Meth K cLook "nexts" fNexts := ⟨mLook_nexts, iNexts, kNexts⟩
  have meLook_sets : Meth K cLook "sets" fSets0 := ⟨mLook_sets, iSets0, kSets0⟩
  have meLook_looks : Meth K cLook "looks" fLookLooks := ⟨mLook_looks, iLookLooks, kLookLooks⟩
  have meLook_empties : Meth K cLook "empties" fEmpt0 := ⟨mLook_empties, iEmpt0, kEmpt0⟩
  have meSwap_told : Meth K cSwap "told" fTold0 := ⟨mSwap_told, iTold0, kTold0⟩
  have meSwap_nexts : Meth K cSwap "nexts" fNexts := ⟨mSwap_nexts, iNexts, kNexts⟩
  have meSwap_sets : Meth K cSwap "sets" fSwapSets := ⟨mSwap_sets, iSwapSets, kSwapSets⟩
  have meSwap_looks : Meth K cSwap "looks" fSwapLooks := ⟨mSwap_looks, iSwapLooks, kSwapLooks⟩
  have meSwap_empties : Meth K cSwap "empties" fSwapEmpt := ⟨mSwap_empties, iSwapEmpt, kSwapEmpt⟩
  have meClear_told : Meth K cClear "told" fTold0 := ⟨mClear_told, iTold0, kTold0⟩
  have meClear_nexts : Meth K cClear "nexts" fNexts := ⟨mClear_nexts, iNexts, kNexts⟩
  have meClear_sets : Meth K cClear "sets" fSets0 := ⟨mClear_sets, iSets0, kSets0⟩
  have meClear_looks : Meth K cClear "looks" fLooks0 := ⟨mClear_looks, iLooks0, kLooks0⟩
  have meClear_empties : Meth K cClear "empties" fClearEmpt := ⟨mClear_empties, iClearEmpt, kClearEmpt⟩
  have meSkip_told : Meth K cSkip "told" fTold0 := ⟨mSkip_told, iTold0, kTold0⟩
  have meSkip_nexts : Meth K cSkip "nexts" fSkipNexts := ⟨mSkip_nexts, iSkipNexts, kSkipNexts⟩
  have meSkip_sets : Meth K cSkip "sets" fSets0 := ⟨mSkip_sets, iSets0, kSets0⟩
  have meSkip_looks : Meth K cSkip "looks" fLooks0 := ⟨mSkip_looks, iLooks0, kLooks0⟩
  have meSkip_empties : Meth K cSkip "empties" fEmpt0 := ⟨mSkip_empties, iEmpt0, kEmpt0⟩
  have cfStep___init__ : ClsFn K cStep "__init__" fI := ⟨spStep, rdStep, fcStep___init__, kI⟩
  have zz_isinstance := PySem.W.mg_none_of X G z_isinstance
  have zz_int := PySem.W.mg_none_of X G z_int
  have zz_bool := PySem.W.mg_none_of X G z_bool
  have zz_str := PySem.W.mg_none_of X G z_str
  have zz_tuple := PySem.W.mg_none_of X G z_tuple
  have zz_len := PySem.W.mg_none_of X G z_len
  have zz_all := PySem.W.mg_none_of X G z_all
  have zz_zip := PySem.W.mg_none_of X G z_zip
  have zz_range := PySem.W.mg_none_of X G z_range
  have zz_list := PySem.W.mg_none_of X G z_list
  have zz_sorted := PySem.W.mg_none_of X G z_sorted
  have zz_set := PySem.W.mg_none_of X G z_set
  have zz_min := PySem.W.mg_none_of X G z_min
  have zz_ValueError := PySem.W.mg_none_of X G z_ValueError
  have vv_TOP : ∃ u, mg "TOP" = some u ∧ RelV (.int TOPi) u := ⟨_, PySem.W.mg_of X G v_TOP, _, rfl⟩
  have vv_NAMES : ∃ u, mg "NAMES" = some u ∧ RelV (.int 12) u := ⟨_, PySem.W.mg_of X G v_NAMES, _, rfl⟩
  have vv_REGISTERS : ∃ u, mg "REGISTERS" = some u ∧ RelV (.int 4) u := ⟨_, PySem.W.mg_of X G v_REGISTERS, _, rfl⟩
  have vv_LONGEST : ∃ u, mg "LONGEST" = some u ∧ RelV (.int 120) u := ⟨_, PySem.W.mg_of X G v_LONGEST, _, rfl⟩
  have xg_Er := PySem.W.mg_of X G xa_Er
  have xg_No := PySem.W.mg_of X G xa_No
  have XNo : XFacts K xNo xEr := ⟨⟨xe_No, xk_No⟩, xs_No, xb_No, xt_No, xv_No⟩
  have bl : Bl mg := ⟨zz_isinstance, zz_int, zz_bool, zz_str, zz_tuple, zz_len, zz_all, zz_zip⟩
  have cn : Cn mg := ⟨vv_TOP, vv_NAMES, vv_REGISTERS, vv_LONGEST⟩
  have T1 : StepsT K mg ⟨fW, fB, fS, fO, fI, fPut, fAdd, fSet, fLook, fSwap, fSkip, cStep, cPut, cAdd, cSet, cLook, cSwap, cClear, cSkip, _, _, _, _, _, _, _, _, _, _, _⟩ :=
    ⟨bl, cn, FW, bW, gW, FB, bB, gB, FS, bS, gS, FO, bO, gO, ⟨FI, bI, cfStep___init__, gCStep, zz_tuple⟩, clClear, nClear_parts, MClear, gCClear,
     clPut, nPut_parts, nPut_reg, nPut_number, MPut, gCPut, FPut, bPut,
     clAdd, nAdd_parts, nAdd_reg, nAdd_other, MAdd, gCAdd, FAdd, bAdd,
     clSet, nSet_parts, nSet_name, nSet_reg, MSet, gCSet, FSet, bSet,
     clLook, nLook_parts, nLook_reg, nLook_name, MLook, gCLook, FLook, bLook,
     clSwap, nSwap_parts, nSwap_reg, nSwap_name, MSwap, gCSwap, FSwap, bSwap,
     clSkip, nSkip_parts, nSkip_reg, nSkip_place, MSkip, gCSkip, FSkip, bSkip⟩
  have T2 := MsOk.mk (m := ⟨fTold0, fNexts, fSets0, fLooks0, fEmpt0, fSetSets, fLookLooks, fSwapSets, fSwapLooks, fSwapEmpt, fClearEmpt, fSkipNexts, _, _, _, _, _, _, _, _, _, _, _, _⟩) T1 zz_sorted zz_set FTold0 bTold0 FNexts bNexts FSets0 bSets0 FLooks0 bLooks0 FEmpt0 bEmpt0 FSetSets bSetSets FLookLooks bLookLooks FSwapSets bSwapSets FSwapLooks bSwapLooks FSwapEmpt bSwapEmpt FClearEmpt bClearEmpt FSkipNexts bSkipNexts mePut_told mePut_nexts mePut_sets mePut_looks mePut_empties meAdd_told meAdd_nexts meAdd_sets meAdd_looks meAdd_empties meSet_told meSet_nexts meSet_sets meSet_looks meSet_empties meLook_told meLook_nexts meLook_sets meLook_looks meLook_empties meSwap_told meSwap_nexts meSwap_sets meSwap_looks meSwap_empties meClear_told meClear_nexts meClear_sets meClear_looks meClear_empties meSkip_told meSkip_nexts meSkip_sets meSkip_looks meSkip_empties
  have T3 := L01Ok.mk (v := ⟨fM, fR, fLB, fG, fSp, _, xNo, xEr, _, _, _, _, _, _⟩) T2 XNo xg_No xg_Er zz_ValueError zz_range zz_min zz_list FM bM gM FR bR gR FLB bLB gLB FG bG gG FSp bSp gSp FLaw
  exact ⟨PySem.W.fnOf "law" "law" (defArgs sLaw) (defBody sLaw) (defScope sLaw) .none kVLaw dcLaw pmLaw anLaw cdLaw ctLaw, fun s v => .of_eq rfl, fun base h1 h2 => ok_law T3⟩
theorem walk {l : PySem.W.OpenLaw} {q : Program} {loose : List Str} {XP : (Str → Option Value) → Heap → Prop} {YP : World → Heap → Prop} {d : DefRec} {K : Params → PySem.W.Frag} (hn : l.most = some 63) (hdf : d.params.defaults = [])
    (hY : ∀ (w : World) (h : Heap), YP w h → (K w.params).In h)
    (F : ∀ (w : World) (mg : Str → Option Value) (fa : Addr) (h : Heap), (K w.params).In h → h.Ns mainGlobals mg → mg d.name = some (.ref fa) →
      ∃ fd : FuncData, (∀ (s : Shared) (u : Value), BindsTo s fd ⟨[u], []⟩ [("_law_script", u)]) ∧ ∀ base : Heap, (K w.params).In base → base.Ns mainGlobals mg → FnOk l.prog w (K w.params) mg base CX0 6 fa fd ["_law_script"] (spLaw (K w.params))) :
    PySem.W.WalkO q loose XP YP l.row.toRowW d [] (fun f vs => PySem.call f vs) :=
  L2.walk_of (n := 63) (k := 6) (x := "_law_script") (CX := fun _ => CX0) (sp := fun w => spLaw (K w.params)) hn (by decide) hdf ⟨rfl, by decide, by decide⟩ hY F (fun _ _ a ns hl _ hS => ⟨a, ns, rfl, hS, hl, fun _ => rfl⟩) fun _ _ _ _ _ z => z
end TL
open PySem PySem.W PyProof.Rows
set_option maxRecDepth 100000 in
set_option maxHeartbeats 0 in
theorem PySem.Challenge.cw_traylate_k01_steps_told_holds : PySem.Challenge.rw_traylate_k01_steps_told.Holds := by
  w_on; o_law; k_head; (case hw => w_witness2)
  k_fill
  refine TL.walk (l := PySem.Challenge.rw_traylate_k01_steps_told) rfl rfl (fun w h Y => PySem.W.kIn_of Y) ?F
  case F =>
    intro w mg fa h KX G hmg
    refine' TL.all_mk KX G hmg ?aCStep ?aCPut ?aCAdd ?aCSet ?aCLook ?aCSwap ?aCSkip ?aCClear ?aW ?lW ?c_W ?kW ?aB ?lB ?c_B ?kB ?aS ?lS ?c_S ?kS ?aO ?lO ?c_O ?kO ?aI ?lI ?c_I ?kI ?iI ?aPut ?lPut ?c_Put ?kPut ?iPut ?aAdd ?lAdd ?c_Add ?kAdd ?iAdd ?aSet ?lSet ?c_Set ?kSet ?iSet ?aLook ?lLook ?c_Look ?kLook ?iLook ?aSwap ?lSwap ?c_Swap ?kSwap ?iSwap ?aSkip ?lSkip ?c_Skip ?kSkip ?iSkip ?aTold0 ?lTold0 ?c_Told0 ?kTold0 ?iTold0 ?aNexts ?lNexts ?c_Nexts ?kNexts ?iNexts ?aSets0 ?lSets0 ?c_Sets0 ?kSets0 ?iSets0 ?aLooks0 ?lLooks0 ?c_Looks0 ?kLooks0 ?iLooks0 ?aEmpt0 ?lEmpt0 ?c_Empt0 ?kEmpt0 ?iEmpt0 ?aSetSets ?lSetSets ?c_SetSets ?kSetSets ?iSetSets ?aLookLooks ?lLookLooks ?c_LookLooks ?kLookLooks ?iLookLooks ?aSwapSets ?lSwapSets ?c_SwapSets ?kSwapSets ?iSwapSets ?aSwapLooks ?lSwapLooks ?c_SwapLooks ?kSwapLooks ?iSwapLooks ?aSwapEmpt ?lSwapEmpt ?c_SwapEmpt ?kSwapEmpt ?iSwapEmpt ?aClearEmpt ?lClearEmpt ?c_ClearEmpt ?kClearEmpt ?iClearEmpt ?aSkipNexts ?lSkipNexts ?c_SkipNexts ?kSkipNexts ?iSkipNexts ?aM ?lM ?c_M ?kM ?aR ?lR ?c_R ?kR ?aLB ?lLB ?c_LB ?kLB ?aG ?lG ?c_G ?kG ?aSp ?lSp ?c_Sp ?kSp ?aLaw ?lLaw ?c_Law ?kLaw ?pgStep ?hdStep ?poStep ?saStep ?pgPut ?hdPut ?poPut ?saPut ?mkPut ?kcPut ?nPut_parts ?nPut_reg ?nPut_number ?pgAdd ?hdAdd ?poAdd ?saAdd ?mkAdd ?kcAdd ?nAdd_parts ?nAdd_reg ?nAdd_other ?pgSet ?hdSet ?poSet ?saSet ?mkSet ?kcSet ?nSet_parts ?nSet_name ?nSet_reg ?pgLook ?hdLook ?poLook ?saLook ?mkLook ?kcLook ?nLook_parts ?nLook_reg ?nLook_name ?pgSwap ?hdSwap ?poSwap ?saSwap ?mkSwap ?kcSwap ?nSwap_parts ?nSwap_reg ?nSwap_name ?pgSkip ?hdSkip ?poSkip ?saSkip ?mkSkip ?kcSkip ?nSkip_parts ?nSkip_reg ?nSkip_place ?pgClear ?hdClear ?poClear ?saClear ?mkClear ?kcClear ?nClear_parts ?mPut_told ?mPut_nexts ?mPut_sets ?mPut_looks ?mPut_empties ?mAdd_told ?mAdd_nexts ?mAdd_sets ?mAdd_looks ?mAdd_empties ?mSet_told ?mSet_nexts ?mSet_sets ?mSet_looks ?mSet_empties ?mLook_told ?mLook_nexts ?mLook_sets ?mLook_looks ?mLook_empties ?mSwap_told ?mSwap_nexts ?mSwap_sets ?mSwap_looks ?mSwap_empties ?mClear_told ?mClear_nexts ?mClear_sets ?mClear_looks ?mClear_empties ?mSkip_told ?mSkip_nexts ?mSkip_sets ?mSkip_looks ?mSkip_empties ?inPut ?inAdd ?inSet ?inLook ?inSwap ?inSkip ?inClear ?spStep ?rdStep ?fcStep___init__ ?z_isinstance ?z_int ?z_bool ?z_str ?z_tuple ?z_len ?z_all ?z_zip ?z_range ?z_list ?z_sorted ?z_set ?z_min ?z_ValueError ?v_TOP ?v_NAMES ?v_REGISTERS ?v_LONGEST ?xa_Er ?xa_No ?xe_No ?xk_No ?xs_No ?xb_No ?xt_No ?xv_No
    (case aCStep => k_is)
    (case aCPut => k_is)
    (case aCAdd => k_is)
    (case aCSet => k_is)
    (case aCLook => k_is)
    (case aCSwap => k_is)
    (case aCSkip => k_is)
    (case aCClear => k_is)
    (case aW => k_is)
    (case lW => k_is)
    (case c_W => k_is)
    (case kW => k_is)
    (case aB => k_is)
    (case lB => k_is)
    (case c_B => k_is)
    (case kB => k_is)
    (case aS => k_is)
    (case lS => k_is)
    (case c_S => k_is)
    (case kS => k_is)
    (case aO => k_is)
    (case lO => k_is)
    (case c_O => k_is)
    (case kO => k_is)
    (case aI => k_is)
    (case lI => k_is)
    (case c_I => k_is)
    (case kI => k_is)
    (case iI => k_is)
    (case aPut => k_is)
    (case lPut => k_is)
    (case c_Put => k_is)
    (case kPut => k_is)
    (case iPut => k_is)
    (case aAdd => k_is)
    (case lAdd => k_is)
    (case c_Add => k_is)
    (case kAdd => k_is)
    (case iAdd => k_is)
    (case aSet => k_is)
    (case lSet => k_is)
    (case c_Set => k_is)
    (case kSet => k_is)
    (case iSet => k_is)
    (case aLook => k_is)
    (case lLook => k_is)
    (case c_Look => k_is)
    (case kLook => k_is)
    (case iLook => k_is)
    (case aSwap => k_is)
    (case lSwap => k_is)
    (case c_Swap => k_is)
    (case kSwap => k_is)
    (case iSwap => k_is)
    (case aSkip => k_is)
    (case lSkip => k_is)
    (case c_Skip => k_is)
    (case kSkip => k_is)
    (case iSkip => k_is)
    (case aTold0 => k_is)
    (case lTold0 => k_is)
    (case c_Told0 => k_is)
    (case kTold0 => k_is)
    (case iTold0 => k_is)
    (case aNexts => k_is)
    (case lNexts => k_is)
    (case c_Nexts => k_is)
    (case kNexts => k_is)
    (case iNexts => k_is)
    (case aSets0 => k_is)
    (case lSets0 => k_is)
    (case c_Sets0 => k_is)
    (case kSets0 => k_is)
    (case iSets0 => k_is)
    (case aLooks0 => k_is)
    (case lLooks0 => k_is)
    (case c_Looks0 => k_is)
    (case kLooks0 => k_is)
    (case iLooks0 => k_is)
    (case aEmpt0 => k_is)
    (case lEmpt0 => k_is)
    (case c_Empt0 => k_is)
    (case kEmpt0 => k_is)
    (case iEmpt0 => k_is)
    (case aSetSets => k_is)
    (case lSetSets => k_is)
    (case c_SetSets => k_is)
    (case kSetSets => k_is)
    (case iSetSets => k_is)
    (case aLookLooks => k_is)
    (case lLookLooks => k_is)
    (case c_LookLooks => k_is)
    (case kLookLooks => k_is)
    (case iLookLooks => k_is)
    (case aSwapSets => k_is)
    (case lSwapSets => k_is)
    (case c_SwapSets => k_is)
    (case kSwapSets => k_is)
    (case iSwapSets => k_is)
    (case aSwapLooks => k_is)
    (case lSwapLooks => k_is)
    (case c_SwapLooks => k_is)
    (case kSwapLooks => k_is)
    (case iSwapLooks => k_is)
    (case aSwapEmpt => k_is)
    (case lSwapEmpt => k_is)
    (case c_SwapEmpt => k_is)
    (case kSwapEmpt => k_is)
    (case iSwapEmpt => k_is)
    (case aClearEmpt => k_is)
    (case lClearEmpt => k_is)
    (case c_ClearEmpt => k_is)
    (case kClearEmpt => k_is)
    (case iClearEmpt => k_is)
    (case aSkipNexts => k_is)
    (case lSkipNexts => k_is)
    (case c_SkipNexts => k_is)
    (case kSkipNexts => k_is)
    (case iSkipNexts => k_is)
    (case aM => k_is)
    (case lM => k_is)
    (case c_M => k_is)
    (case kM => k_is)
    (case aR => k_is)
    (case lR => k_is)
    (case c_R => k_is)
    (case kR => k_is)
    (case aLB => k_is)
    (case lLB => k_is)
    (case c_LB => k_is)
    (case kLB => k_is)
    (case aG => k_is)
    (case lG => k_is)
    (case c_G => k_is)
    (case kG => k_is)
    (case aSp => k_is)
    (case lSp => k_is)
    (case c_Sp => k_is)
    (case kSp => k_is)
    (case aLaw => k_is)
    (case lLaw => k_is)
    (case c_Law => k_is)
    (case kLaw => k_is)
    (case pgStep => k_is)
    (case hdStep => k_is)
    (case poStep => k_is)
    (case saStep => k_is)
    (case pgPut => k_is)
    (case hdPut => k_is)
    (case poPut => k_is)
    (case saPut => k_is)
    (case mkPut => k_is)
    (case kcPut => k_is)
    (case nPut_parts => k_is)
    (case nPut_reg => k_is)
    (case nPut_number => k_is)
    (case pgAdd => k_is)
    (case hdAdd => k_is)
    (case poAdd => k_is)
    (case saAdd => k_is)
    (case mkAdd => k_is)
    (case kcAdd => k_is)
    (case nAdd_parts => k_is)
    (case nAdd_reg => k_is)
    (case nAdd_other => k_is)
    (case pgSet => k_is)
    (case hdSet => k_is)
    (case poSet => k_is)
    (case saSet => k_is)
    (case mkSet => k_is)
    (case kcSet => k_is)
    (case nSet_parts => k_is)
    (case nSet_name => k_is)
    (case nSet_reg => k_is)
    (case pgLook => k_is)
    (case hdLook => k_is)
    (case poLook => k_is)
    (case saLook => k_is)
    (case mkLook => k_is)
    (case kcLook => k_is)
    (case nLook_parts => k_is)
    (case nLook_reg => k_is)
    (case nLook_name => k_is)
    (case pgSwap => k_is)
    (case hdSwap => k_is)
    (case poSwap => k_is)
    (case saSwap => k_is)
    (case mkSwap => k_is)
    (case kcSwap => k_is)
    (case nSwap_parts => k_is)
    (case nSwap_reg => k_is)
    (case nSwap_name => k_is)
    (case pgSkip => k_is)
    (case hdSkip => k_is)
    (case poSkip => k_is)
    (case saSkip => k_is)
    (case mkSkip => k_is)
    (case kcSkip => k_is)
    (case nSkip_parts => k_is)
    (case nSkip_reg => k_is)
    (case nSkip_place => k_is)
    (case pgClear => k_is)
    (case hdClear => k_is)
    (case poClear => k_is)
    (case saClear => k_is)
    (case mkClear => k_is)
    (case kcClear => k_is)
    (case nClear_parts => k_is)
    (case mPut_told => k_is)
    (case mPut_nexts => k_is)
    (case mPut_sets => k_is)
    (case mPut_looks => k_is)
    (case mPut_empties => k_is)
    (case mAdd_told => k_is)
    (case mAdd_nexts => k_is)
    (case mAdd_sets => k_is)
    (case mAdd_looks => k_is)
    (case mAdd_empties => k_is)
    (case mSet_told => k_is)
    (case mSet_nexts => k_is)
    (case mSet_sets => k_is)
    (case mSet_looks => k_is)
    (case mSet_empties => k_is)
    (case mLook_told => k_is)
    (case mLook_nexts => k_is)
    (case mLook_sets => k_is)
    (case mLook_looks => k_is)
    (case mLook_empties => k_is)
    (case mSwap_told => k_is)
    (case mSwap_nexts => k_is)
    (case mSwap_sets => k_is)
    (case mSwap_looks => k_is)
    (case mSwap_empties => k_is)
    (case mClear_told => k_is)
    (case mClear_nexts => k_is)
    (case mClear_sets => k_is)
    (case mClear_looks => k_is)
    (case mClear_empties => k_is)
    (case mSkip_told => k_is)
    (case mSkip_nexts => k_is)
    (case mSkip_sets => k_is)
    (case mSkip_looks => k_is)
    (case mSkip_empties => k_is)
    (case inPut => k_is)
    (case inAdd => k_is)
    (case inSet => k_is)
    (case inLook => k_is)
    (case inSwap => k_is)
    (case inSkip => k_is)
    (case inClear => k_is)
    (case spStep => k_is)
    (case rdStep => k_is)
    (case fcStep___init__ => k_is)
    (case z_isinstance => k_is)
    (case z_int => k_is)
    (case z_bool => k_is)
    (case z_str => k_is)
    (case z_tuple => k_is)
    (case z_len => k_is)
    (case z_all => k_is)
    (case z_zip => k_is)
    (case z_range => k_is)
    (case z_list => k_is)
    (case z_sorted => k_is)
    (case z_set => k_is)
    (case z_min => k_is)
    (case z_ValueError => k_is)
    (case v_TOP => k_is)
    (case v_NAMES => k_is)
    (case v_REGISTERS => k_is)
    (case v_LONGEST => k_is)
    (case xa_Er => k_is)
    (case xa_No => k_is)
    (case xe_No => kernel_rfl)
    (case xk_No => k_is)
    (case xs_No => kernel_rfl)
    (case xb_No => kernel_rfl)
    (case xt_No => kernel_rfl)
    (case xv_No => kernel_rfl)
#print axioms PySem.Challenge.cw_traylate_k01_steps_told_holds
