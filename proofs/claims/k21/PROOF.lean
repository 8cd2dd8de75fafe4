import PyProof.Rows.All
import Wide.All
import OpenK.AllK
import Wide.FinOn
import Lean
import PyProof.EqAt
import PyProof.EqKinds
import PyProof.TupleCall
import PyProof.Walks
import PyProof.ZipIter
import PyProof.EnumMake
import PyProof.Draws
import PyProof.StationsW
import PyProof.PassesOwn
import PyProof.RulesAs
import PyProof.Rows.TopTwo
import OpenK.KOwn
import PyProof.NsDelKeeps
import KE.KIsAll
import KE.KSortTup
import KE.KLam
import KE.KMinKey
import PyProof.Rows.CallKwBuiltin
import KE.KNestM
import PyProof.Rows.SetFrom
import PyProof.CollectWalk
import OpenK.KEqL
import KE.KSortedM
import PySem.Challenge.RW_traylate_k21_trays
set_option Elab.async false
set_option linter.all false
set_option maxRecDepth 100000
set_option maxHeartbeats 4000000
-- CHANGE: your row's module here, as the last of these rows
/-! THE HAND LAYER, for ints, bools, texts, own classes, LISTS and tuples (index, slices, in, append, pop ..), calls, loops. Paste it whole ahead of your own text; what your proof does not reach may be deleted. -/
namespace L2
open PySem PySem.Spec PyProof.Rows

/-- a key: an int or a str -/
abbrev Key := Sum Int Str
def keyIs : Key → Value → Bool
  | .inl k, v => Value.isInt k v
  | .inr x, v => Value.isStrOf x v
def keyH (w : World) : Key → Int
  | .inl k => hashInt k
  | .inr x => hashStr w x
theorem keyIs_shape : ∀ {k : Key} {v : Value}, keyIs k v = true → (∃ i t, k = Sum.inl i ∧ v = Value.int i t) ∨ (∃ x t, k = Sum.inr x ∧ v = Value.str x t)
  | .inl i, v, h => by
    obtain ⟨t, e⟩ := Value.isInt_shape (k := i) (v := v) h
    exact .inl ⟨i, t, rfl, e⟩
  | .inr x, v, h => by
    obtain ⟨t, e⟩ := Value.isStrOf_shape (x := x) (v := v) h
    exact .inr ⟨x, t, rfl, e⟩
theorem keyIs_int (i : Int) (t : Tok) : keyIs (.inl i) (.int i t) = true := by simp [keyIs, Value.isInt]
theorem keyIs_str (x : Str) (t : Tok) : keyIs (.inr x) (.str x t) = true := by simp [keyIs, Value.isStrOf]
theorem key_ll (a b : Int) : decide ((Sum.inl a : Key) = Sum.inl b) = (a == b) := by
  by_cases e : a = b
  · subst e; simp
  · have h : ¬ (Sum.inl a : Key) = Sum.inl b := fun q => e (Sum.inl.inj q)
    rw [decide_eq_false h]
    exact (beq_eq_false_iff_ne.mpr e).symm
theorem key_rr (a b : Str) : decide ((Sum.inr a : Key) = Sum.inr b) = decide (a = b) := by
  by_cases e : a = b
  · subst e; simp
  · have h : ¬ (Sum.inr a : Key) = Sum.inr b := fun q => e (Sum.inr.inj q)
    rw [decide_eq_false h, decide_eq_false e]
theorem key_lr (a : Int) (b : Str) : decide ((Sum.inl a : Key) = Sum.inr b) = false := decide_eq_false (fun q => nomatch q)
theorem key_rl (a : Str) (b : Int) : decide ((Sum.inr a : Key) = Sum.inl b) = false := decide_eq_false (fun q => nomatch q)

def mixKind (prog : Program) (w : World) : PySem.KeyKind prog w Key where
  is := keyIs
  hash := keyH w
  inj := fun v a b ha hb => by
    rcases keyIs_shape ha with ⟨i, t, rfl, rfl⟩ | ⟨x, t, rfl, rfl⟩
    · rcases keyIs_shape hb with ⟨j, u, rfl, e⟩ | ⟨y, u, rfl, e⟩
      · injection e with e1 _; rw [e1]
      · exact nomatch e
    · rcases keyIs_shape hb with ⟨j, u, rfl, e⟩ | ⟨y, u, rfl, e⟩
      · exact nomatch e
      · injection e with e1 _; rw [e1]
  byValue := fun k v h => by
    rcases keyIs_shape h with ⟨i, t, rfl, rfl⟩ | ⟨x, t, rfl, rfl⟩ <;> rfl
  pyHash := fun hv h => by
    rcases keyIs_shape hv with ⟨i, t, rfl, rfl⟩ | ⟨x, t, rfl, rfl⟩
    · exact wpAny_pyHash_int h
    · exact wpAny_pyHash_str h
  eqBool := fun hu hv h => by
    rcases keyIs_shape hu with ⟨i, t, rfl, rfl⟩ | ⟨x, t, rfl, rfl⟩
    · rcases keyIs_shape hv with ⟨j, u, rfl, rfl⟩ | ⟨y, u, rfl, rfl⟩
      · rw [key_ll] at h; exact wpAny_eqBool_int h
      · rw [key_lr] at h; exact SeqAt.EqAt.int_str i t y u _ _ _ _ h
    · rcases keyIs_shape hv with ⟨j, u, rfl, rfl⟩ | ⟨y, u, rfl, rfl⟩
      · rw [key_rl] at h; exact SeqAt.EqAt.str_int x t j u _ _ _ _ h
      · rw [key_rr] at h; exact wpAny_eqBool_str h
  «strs» := fun k x t v h => by
    rcases keyIs_shape h with ⟨i, u, rfl, e⟩ | ⟨y, u, rfl, e⟩
    · exact nomatch e
    · injection e with e1 _
      subst e1
      cases v <;> rfl

theorem mixKind_is (prog : Program) (w : World) (k : Key) (v : Value) : (mixKind prog w).is k v = keyIs k v := rfl
theorem mixKind_int (prog : Program) (w : World) (i : Int) (t : Tok) : (mixKind prog w).is (.inl i) (.int i t) = true := keyIs_int i t
theorem mixKind_str (prog : Program) (w : World) (x : Str) (t : Tok) : (mixKind prog w).is (.inr x) (.str x t) = true := keyIs_str x t
end L2

namespace L2
open PySem PySem.Spec PyProof.Rows

/-- a value, without the heap -/
inductive V where
  | non | bl (b : Bool) | int (i : Int) | str (x : Str) | byt (b : Array UInt8) | flt (b : UInt64) | ref (a : Addr) | ty (n : String)
  deriving DecidableEq

def RelV : V → Value → Prop
  | .non, u => u = Value.none
  | .bl b, u => u = Value.bool b
  | .int i, u => ∃ t, u = Value.int i t
  | .str x, u => ∃ t, u = Value.str x t
  | .byt b, u => ∃ t, u = Value.bytes b t
  | .flt b, u => ∃ t, u = Value.float b t
  | .ref a, u => u = Value.ref a
  | .ty n, u => u = Value.type n

abbrev Vals : List V → List Value → Prop := Paired RelV
theorem Vals.length {xs : List V} {us : List Value} (r : Vals xs us) : xs.length = us.length := Paired.length r
theorem Vals.get : ∀ {xs : List V} {us : List Value} {i : Nat} {x : V}, Vals xs us → xs[i]? = some x → ∃ u, us[i]? = some u ∧ RelV x u
  | _, _, _, _, .nil, e => by simp at e
  | _, _, 0, _, .cons r _, e => by simp at e; subst e; exact ⟨_, rfl, r⟩
  | _, _, i + 1, x, .cons _ t, e => by
    obtain ⟨u, h1, h2⟩ := Vals.get (i := i) (x := x) t (by simpa using e)
    exact ⟨u, by simpa using h1, h2⟩
theorem Vals.set {x : V} {u : Value} (r : RelV x u) : ∀ {xs : List V} {us : List Value} (i : Nat), Vals xs us → Vals (xs.set i x) (us.set i u)
  | _, _, _, .nil => .nil
  | _, _, 0, .cons _ t => .cons r t
  | _, _, i + 1, .cons q t => .cons q (Vals.set r i t)
theorem Vals.append : ∀ {xs ys : List V} {us ws : List Value}, Vals xs us → Vals ys ws → Vals (xs ++ ys) (us ++ ws)
  | _, _, _, _, .nil, s => s
  | _, _, _, _, .cons r t, s => .cons r (Vals.append t s)
theorem Vals.take : ∀ {xs : List V} {us : List Value} (n : Nat), Vals xs us → Vals (xs.take n) (us.take n)
  | _, _, 0, _ => .nil
  | _, _, _ + 1, .nil => .nil
  | _, _, n + 1, .cons r t => .cons r (Vals.take n t)
theorem Vals.drop : ∀ {xs : List V} {us : List Value} (n : Nat), Vals xs us → Vals (xs.drop n) (us.drop n)
  | _, _, 0, r => r
  | _, _, _ + 1, .nil => .nil
  | _, _, n + 1, .cons _ t => Vals.drop n t
theorem Vals.none_of : ∀ {xs : List V} {us : List Value} {i : Nat}, Vals xs us → xs[i]? = none → us[i]? = none := fun {xs us i} r e => by
  have h1 := r.length
  have h2 : xs.length ≤ i := List.getElem?_eq_none_iff.mp e
  exact List.getElem?_eq_none_iff.mpr (by omega)

def RelO : Option V → Option Value → Prop
  | some v, some u => RelV v u
  | none, none => True
  | _, _ => False
def KV {κ : Type} : List (κ × V) → List (κ × Value) → Prop := Paired fun (p : κ × V) (q : κ × Value) => p.1 = q.1 ∧ RelV p.2 q.2

/-- a key of a dict (00_mix): an int or a text -/
def kV : Key → V
  | .inl i => .int i
  | .inr x => .str x

/-- what stands at a tracked address -/
inductive HO where
  /-- a list -/
  | lst (xs : List V)
  /-- a tuple (never changes) -/
  | tup (xs : List V)
  /-- a dict whose keys are ints and texts; one whose keys are tuples of ints and texts (the empty one is both) -/
  | dK (kvs : List (Key × V)) | dT (kvs : List (List Key × V))
  /-- a set of ints: its members, its size -/
  | set (S : Int → Bool) (n : Nat)
  /-- an instance of the class at C, its dict at dx, its attributes -/
  | ins (C dx : Addr) (fs : List (Str × V))
  /-- the dict of the instance at x -/
  | own (x : Addr)
  /-- the dict of an exception -/
  | xd (fs : List (Str × V))
  /-- a bound method, f of x -/
  | met (f x : Addr)
  /-- a range object lo, lo + 1, .. below hi -/
  | rng (lo hi : Int)
  /-- a thing that is known to the object (the script; a dict while a loop walks it): read, never written while it is so -/
  | frz (o : Obj) (u : HO)
  /-- a code object's table -/
  | tbl (ps : Array Value)
  /-- any other thing, by what is true of its one object (a def of one's own: SetO a S n := HO.ext fun h => ..) -/
  | ext (φ : Heap → Prop)

abbrev Hp := Addr → Option HO
def upd (H : Hp) (a : Addr) (o : HO) : Hp := fun b => if b = a then some o else H b
theorem upd_same {H : Hp} {a : Addr} {o : HO} : upd H a o a = some o := by unfold upd; rw [if_pos rfl]
theorem upd_ne {H : Hp} {a b : Addr} {o : HO} (h : b ≠ a) : upd H a o b = H b := by unfold upd; rw [if_neg h]
theorem upd_upd {H : Hp} {a : Addr} {o u : HO} : upd (upd H a o) a u = upd H a u := by
  funext b; unfold upd; split <;> rfl
/-- two objects of different content stand apart -/
theorem ne_of {H : Hp} {a b : Addr} {o u : HO} (h : H a = some o) (h' : H b = some u) (d : o ≠ u) : a ≠ b := by
  intro e; subst e; rw [h] at h'; exact d (Option.some.inj h')
theorem ne_of_none {H : Hp} {a b : Addr} {o : HO} (h : H a = some o) (h' : H b = none) : a ≠ b := by
  intro e; subst e; rw [h] at h'; cases h'

section
variable (P : Program) (w : World)
def ObjOk (H : Hp) (h : Heap) (a : Addr) : HO → Prop
  | .lst xs => xs.length ≤ sizeLine ∧ ∃ (its : List Value) (n : Nat), Vals xs its ∧ h.get? a = some { cls := .type "list", data := .seq its.toArray n }
  | .tup xs => xs.length ≤ sizeLine ∧ ∃ its : List Value, Vals xs its ∧ IsTup h a its.toArray
  | .dK kvs => kvs.length ≤ sizeLine ∧ (a == sysModules) = false ∧ ∃ vs, KV kvs vs ∧ h.DictOf (mixKind P w) a vs
  | .dT kvs => kvs.length ≤ sizeLine ∧ (a == sysModules) = false ∧ ∃ xs : List (List Key × Addr × Value),
      Paired (fun (p : List Key × V) (q : List Key × Addr × Value) => p.1 = q.1 ∧ H q.2.1 = some (.tup (p.1.map kV)) ∧ RelV p.2 q.2.2) kvs xs ∧
      ∃ o es ep, h.get? a = some o ∧ o.ExactDict ∧ o.data = .dict es ep ∧ es.toList = xs.map (entryOfKey (tupleKind (mixKind P w))) ∧ (xs.map (·.1)).Nodup
  | .set S n => h.SetOf (intKind P w) a S n
  | .ins C dx fs => H dx = some (.own a) ∧ fs.length ≤ 1000 ∧ dx ≠ a ∧ h.get? a = some (PySem.W.instObj C dx) ∧
      ∃ mA, h.Ns1 dx mA ∧ (∀ f, RelO (fs.lookup f) (mA f)) ∧ PySem.Within mA (fs.map (·.1))
  | .own _ => ∃ o, h.get? a = some o
  | .xd fs => ∃ mA, h.Ns1 a mA ∧ ∀ f, RelO (fs.lookup f) (mA f)
  | .rng lo hi => ∃ t u v, h.get? a = some { cls := .type "range", data := .fields #[.int lo t, .int hi u, .int 1 v] }
  | .frz o u => h.get? a = some o ∧ ObjOk H h a u
  | .tbl ps => h.get? a = some { cls := .none, data := .fields ps }
  | .met f x => h.get? a = some (PySem.W.methodObj (.ref f) (.ref x))
  | .ext φ => φ h ∧ (∃ o, h.get? a = some o) ∧ ∀ h1 h2 : Heap, φ h1 → (∀ o, h1.get? a = some o → h2.get? a = some o) → φ h2
/-- the abstract heap is held -/
def HOk (H : Hp) (h : Heap) : Prop := ∀ a o, H a = some o → ObjOk P w H h a o
end

section
variable {P : Program} {w : World} {H H' : Hp} {h h' : Heap} {a : Addr} {o : HO}
theorem ObjOk.lt (x : ObjOk P w H h a o) : a < h.objs.size := by
  cases o with
  | lst xs => obtain ⟨_, _, _, _, e⟩ := x; exact Heap.lt_size e
  | tup xs => obtain ⟨_, _, _, p⟩ := x; exact p.lt
  | dK kvs => obtain ⟨_, _, _, _, o, _, _, e, _⟩ := x; exact Heap.lt_size e
  | dT kvs => obtain ⟨_, _, _, _, o, _, _, e, _⟩ := x; exact Heap.lt_size e
  | set S n => obtain ⟨o, _, _, _, e, _⟩ := x; exact Heap.lt_size e
  | ins C dx fs => obtain ⟨_, _, _, e, _⟩ := x; exact Heap.lt_size e
  | own y => obtain ⟨_, e⟩ := x; exact Heap.lt_size e
  | xd fs => obtain ⟨_, ⟨_, _, _, e, _⟩, _⟩ := x; exact Heap.lt_size e
  | rng lo hi => obtain ⟨_, _, _, e⟩ := x; exact Heap.lt_size e
  | frz ob u => obtain ⟨e, _⟩ := x; exact Heap.lt_size e
  | tbl ps => exact Heap.lt_size (show h.get? a = some _ from x)
  | met f y => exact Heap.lt_size (show h.get? a = some _ from x)
  | ext φ => obtain ⟨_, ⟨_, e⟩, _⟩ := x; exact Heap.lt_size e
theorem Paired.mapP {α β : Type} {F G : α → β → Prop} : ∀ {l₁ : List α} {l₂ : List β}, Paired F l₁ l₂ → (∀ a b, F a b → G a b) → Paired G l₁ l₂
  | _, _, .nil, _ => .nil
  | _, _, .cons r t, f => .cons (f _ _ r) (Paired.mapP t f)
theorem Paired.imp' {α β : Type} {F G : α → β → Prop} (f : ∀ a b, F a b → G a b) {l₁ : List α} {l₂ : List β} (r : Paired F l₁ l₂) : Paired G l₁ l₂ := Paired.mapP r f
/-- what an object's description leans on: its own object, its own dict, the tuples -/
theorem ObjOk.stay (x : ObjOk P w H h a o) (k : ∀ b u, (b = a ∨ H b = some (.own a)) → h.get? b = some u → h'.get? b = some u)
    (ho : ∀ b, H b = some (.own a) → H' b = some (.own a)) (ht : ∀ b xs, H b = some (.tup xs) → H' b = some (.tup xs)) : ObjOk P w H' h' a o := by
  induction o with
  | lst xs => obtain ⟨z, its, n, r, e⟩ := x; exact ⟨z, its, n, r, k _ _ (.inl rfl) e⟩
  | tup xs => obtain ⟨z, its, r, ob, e, c⟩ := x; exact ⟨z, its, r, ob, k _ _ (.inl rfl) e, c⟩
  | dK kvs => obtain ⟨z, y, vs, r, ob, es, ep, e, c⟩ := x; exact ⟨z, y, vs, r, ob, es, ep, k _ _ (.inl rfl) e, c⟩
  | dT kvs =>
    obtain ⟨z, y, xs, r, ob, es, ep, e, c⟩ := x
    exact ⟨z, y, xs, Paired.mapP r fun p q z => ⟨z.1, ht _ _ z.2.1, z.2.2⟩, ob, es, ep, k _ _ (.inl rfl) e, c⟩
  | set S n => obtain ⟨ob, es, ep, t, e, c⟩ := x; exact ⟨ob, es, ep, t, k _ _ (.inl rfl) e, c⟩
  | ins C dx fs =>
    obtain ⟨d, z, ne, e, mA, ⟨od, es, ep, e2, c⟩, r⟩ := x
    exact ⟨ho _ d, z, ne, k _ _ (.inl rfl) e, mA, ⟨od, es, ep, k _ _ (.inr d) e2, c⟩, r⟩
  | own y => obtain ⟨ob, e⟩ := x; exact ⟨ob, k _ _ (.inl rfl) e⟩
  | xd fs => obtain ⟨mA, ⟨od, es, ep, e, c⟩, r⟩ := x; exact ⟨mA, ⟨od, es, ep, k _ _ (.inl rfl) e, c⟩, r⟩
  | rng lo hi => obtain ⟨t, u, v, e⟩ := x; exact ⟨t, u, v, k _ _ (.inl rfl) e⟩
  | frz ob u ih => obtain ⟨e, q⟩ := x; exact ⟨k _ _ (.inl rfl) e, ih q⟩
  | tbl ps =>
    have e : h.get? a = some { cls := .none, data := .fields ps } := x
    show h'.get? a = some { cls := .none, data := .fields ps }
    exact k a _ (.inl rfl) e
  | met f y =>
    have e : h.get? a = some (PySem.W.methodObj (.ref f) (.ref y)) := x
    show h'.get? a = some (PySem.W.methodObj (.ref f) (.ref y))
    exact k a _ (.inl rfl) e
  | ext φ => obtain ⟨p, ⟨o, e⟩, st⟩ := x; exact ⟨st _ _ p fun o q => k _ _ (.inl rfl) q, ⟨o, k _ _ (.inl rfl) e⟩, st⟩
theorem HOk.lt (x : HOk P w H h) (e : H a = some o) : a < h.objs.size := (x a o e).lt
theorem HOk.fresh (x : HOk P w H h) (e : h.objs.size ≤ a) : H a = none := by
  cases q : H a with
  | none => rfl
  | some u => exact absurd (Nat.lt_of_lt_of_le (x.lt q) e) (Nat.lt_irrefl _)
/-- every object of the heap is kept -/
theorem HOk.kept (x : HOk P w H h) (k : ∀ b u, h.get? b = some u → h'.get? b = some u) : HOk P w H h' := fun a o e =>
  (x a o e).stay (fun b u _ q => k b u q) (fun _ q => q) fun _ _ q => q
/-- a new object is laid and tracked -/
theorem HOk.laid (x : HOk P w H h) (k : ∀ b u, h.get? b = some u → h'.get? b = some u) (hp : h.objs.size ≤ a) (new : ObjOk P w (upd H a o) h' a o) : HOk P w (upd H a o) h' := fun b u e => by
  have hn := x.fresh hp
  by_cases hb : b = a
  · subst hb; rw [upd_same] at e; cases e; exact new
  · rw [upd_ne hb] at e
    exact (x b u e).stay (fun c v _ q => k c v q) (fun c q => by rw [upd_ne (ne_of_none q hn)]; exact q) fun c xs q => by rw [upd_ne (ne_of_none q hn)]; exact q
end

/-- what may be read as u: it is u, or a known u -/
def Rd (H : Hp) (a : Addr) (u : HO) : Prop := H a = some u ∨ ∃ o, H a = some (.frz o u)
theorem Rd.of {H : Hp} {a : Addr} {u : HO} (h : H a = some u) : Rd H a u := .inl h
theorem Rd.ok {P : Program} {w : World} {H : Hp} {h : Heap} {a : Addr} {u : HO} (r : Rd H a u) (x : HOk P w H h) : ObjOk P w H h a u := by
  rcases r with r | ⟨o, r⟩
  · exact x a u r
  · obtain ⟨_, q⟩ := x a _ r
    exact q
/-- what may be written -/
def Mut : Option HO → Prop
  | some (.lst _) => True
  | some (.dK _) => True
  | some (.dT _) => True
  | some (.set _ _) => True
  | some (.ins _ _ _) => True
  | some (.ext _) => True
  | _ => False
section
variable {P : Program} {w : World} {H : Hp} {h h' : Heap} {x e : Addr} {o' : HO}
/-- the object at e is changed: x itself, or the dict of the instance x -/
theorem HOk.write (ok : HOk P w H h) (mu : Mut (H x)) (he : e = x ∨ H e = some (.own x)) (k : ∀ b u, b ≠ e → h.get? b = some u → h'.get? b = some u) (heo : ∃ u, h'.get? e = some u)
    (new : ObjOk P w (upd H x o') h' x o') : HOk P w (upd H x o') h' := fun b u q => by
  have nown : ∀ c y, H c = some (.own y) → c ≠ x := fun c y r z => by subst z; rw [r] at mu; exact mu
  have ntup : ∀ c xs, H c = some (.tup xs) → c ≠ x := fun c xs r z => by subst z; rw [r] at mu; exact mu
  by_cases hb : b = x
  · subst hb; rw [upd_same] at q; cases q; exact new
  · rw [upd_ne hb] at q
    by_cases hbe : b = e
    · have q' : H b = some (.own x) := by
        rcases he with z | z
        · exact absurd (hbe.trans z) hb
        · rw [hbe]; exact z
      rw [q] at q'; cases q'
      obtain ⟨v, hv⟩ := heo
      exact ⟨v, by rw [hbe]; exact hv⟩
    · refine (ok b u q).stay (fun c v hc r => k c v ?_ r) (fun c r => by rw [upd_ne (nown c b r)]; exact r) fun c xs r => by rw [upd_ne (ntup c xs r)]; exact r
      rcases hc with rfl | hc
      · exact hbe
      · rintro rfl
        rcases he with z | z
        · exact nown c b hc z
        · rw [hc] at z; cases z; exact hb rfl
end

/-! ### kept unless tracked; of the frames at fs (the callers') the slots may change (an exception that passes writes there); of the records at ex (iterators) nothing is said -/
structure Un (fs ex : List Addr) (H H' : Hp) (h h' : Heap) : Prop where
  keep : ∀ b o, h.get? b = some o → H b = none → b ∉ fs → b ∉ ex → h'.get? b = some o
  slot : ∀ b o, h.get? b = some o → H b = none → b ∈ fs → b ∉ ex → ∃ sl, h'.get? b = some { o with slots := sl }
  free : ∀ b o, h.get? b = some o → H b = none → b ∉ ex → H' b = none
  there : ∀ b o, h.get? b = some o → b ∉ ex → ∃ o', h'.get? b = some o'
  tups : ∀ b xs, H b = some (.tup xs) → H' b = some (.tup xs)
  frzs : ∀ b o u, H b = some (.frz o u) → H' b = some (.frz o u)
  tbls : ∀ b ps, H b = some (.tbl ps) → ∃ more, H' b = some (.tbl (ps ++ more))
section
variable {fs fs' ex ex' : List Addr} {H H1 H2 : Hp} {h h1 h2 h' : Heap} {a x e : Addr} {o : HO}
theorem Un.any (u : Un fs ex H H1 h h1) {b : Addr} {ob : Obj} (q : h.get? b = some ob) (n : H b = none) (hx : b ∉ ex) : ∃ sl, h1.get? b = some { ob with slots := sl } := by
  by_cases hb : b ∈ fs
  · exact u.slot b ob q n hb hx
  · exact ⟨ob.slots, u.keep b ob q n hb hx⟩
theorem Un.trans (a : Un fs ex H H1 h h1) (b : Un fs ex H1 H2 h1 h2) : Un fs ex H H2 h h2 where
  keep := fun c ob q n hc hx => b.keep c ob (a.keep c ob q n hc hx) (a.free c ob q n hx) hc hx
  slot := fun c ob q n hc hx => by
    obtain ⟨sl, e1⟩ := a.slot c ob q n hc hx
    obtain ⟨sl', e2⟩ := b.slot c _ e1 (a.free c ob q n hx) hc hx
    exact ⟨sl', e2⟩
  free := fun c ob q n hx => by
    obtain ⟨o', e1⟩ := a.there c ob q hx
    exact b.free c o' e1 (a.free c ob q n hx) hx
  there := fun c ob q hx => by
    obtain ⟨o', e1⟩ := a.there c ob q hx
    exact b.there c o' e1 hx
  tups := fun c xs q => b.tups c xs (a.tups c xs q)
  frzs := fun c ob xs q => b.frzs c ob xs (a.frzs c ob xs q)
  tbls := fun c ps q => by
    obtain ⟨m1, e1⟩ := a.tbls c ps q
    obtain ⟨m2, e2⟩ := b.tbls c _ e1
    exact ⟨m1 ++ m2, by rw [e2, Array.append_assoc]⟩
theorem Un.kept (k : ∀ b u, h.get? b = some u → h'.get? b = some u) : Un fs ex H H h h' :=
  ⟨fun b ob q _ _ _ => k b ob q, fun b ob q _ _ _ => ⟨ob.slots, k b ob q⟩, fun _ _ _ n _ => n, fun b ob q _ => ⟨ob, k b ob q⟩, fun _ _ q => q, fun _ _ _ q => q, fun _ ps q => ⟨#[], by rw [q]; simp⟩⟩
theorem Un.refl : Un fs ex H H h h := Un.kept fun _ _ q => q
theorem Un.laid (k : ∀ b u, h.get? b = some u → h'.get? b = some u) (hp : h.objs.size ≤ a) (hn : H a = none) : Un fs ex H (upd H a o) h h' where
  keep := fun b u q _ _ _ => k b u q
  slot := fun b u q _ _ _ => ⟨u.slots, k b u q⟩
  free := fun b u q n _ => by rw [upd_ne (Nat.ne_of_lt (Nat.lt_of_lt_of_le (Heap.lt_size q) hp))]; exact n
  there := fun b u q _ => ⟨u, k b u q⟩
  tups := fun b xs q => by rw [upd_ne (ne_of_none q hn)]; exact q
  frzs := fun b u xs q => by rw [upd_ne (ne_of_none q hn)]; exact q
  tbls := fun b ps q => ⟨#[], by rw [upd_ne (ne_of_none q hn), q]; simp⟩
theorem Un.write (mu : Mut (H x)) (he : e = x ∨ H e = some (.own x)) (k : ∀ b u, b ≠ e → h.get? b = some u → h'.get? b = some u) (heo : ∃ u, h'.get? e = some u) : Un fs ex H (upd H x o) h h' := by
  have hx : ∀ b, H b = none → b ≠ x := fun b n z => by subst z; rw [n] at mu; exact mu
  have hb : ∀ b, H b = none → b ≠ e := fun b n z => by
    subst z
    rcases he with r | r
    · exact hx b n r
    · rw [n] at r; cases r
  have hm : ∀ b u, H b = some u → ¬ Mut (some u) → b ≠ x := fun b u q nm z => by subst z; rw [q] at mu; exact nm mu
  refine ⟨fun b u q n _ _ => k b u (hb b n) q, fun b u q n _ _ => ⟨u.slots, k b u (hb b n) q⟩, fun b u q n _ => by rw [upd_ne (hx b n)]; exact n, fun b u q _ => ?_,
    fun b xs q => by rw [upd_ne (hm b _ q fun z => z)]; exact q, fun b u xs q => by rw [upd_ne (hm b _ q fun z => z)]; exact q, fun b ps q => ⟨#[], by rw [upd_ne (hm b _ q fun z => z), q]; simp⟩⟩
  by_cases hbe : b = e
  · subst hbe; exact heo
  · exact ⟨u, k b u hbe q⟩
theorem Un.mono (u : Un fs ex H H1 h h1) (hs : ∀ b ∈ fs, b ∈ fs') (hx : ∀ b ∈ ex, b ∈ ex') : Un fs' ex' H H1 h h1 :=
  ⟨fun b ob q n hb he => u.keep b ob q n (fun z => hb (hs b z)) fun z => he (hx b z), fun _ _ q n _ he => u.any q n fun z => he (hx _ z), fun b ob q n he => u.free b ob q n fun z => he (hx b z), fun b ob q he => u.there b ob q fun z => he (hx b z), u.tups, u.frzs, u.tbls⟩
end

/-! ### the heap without what is tracked -/
def trk (h : Heap) (H : Hp) : List Addr := (List.range h.objs.size).filter fun a => (H a).isSome
def hidT (h : Heap) (H : Hp) : Heap := PySem.W.hideAll h (trk h H)
theorem hidT_size (h : Heap) (H : Hp) : (hidT h H).objs.size = h.objs.size := PySem.W.hideAll_size _ _
theorem hidT_get {h : Heap} {H : Hp} {b : Addr} {o : Obj} (e : h.get? b = some o) (n : H b = none) : (hidT h H).get? b = some o :=
  PySem.W.hideAll_get _ e fun hm => by
    have q : (H b).isSome = true := (List.mem_filter.mp hm).2
    rw [n] at q; simp at q
theorem of_hidT {h : Heap} {H : Hp} {b : Addr} {o : Obj} (e : (hidT h H).get? b = some o) : h.get? b = some o ∧ H b = none := by
  have e' : h.get? b = some o := PySem.W.of_hideAll (trk h H) e
  refine ⟨e', ?_⟩
  cases q : H b with
  | none => rfl
  | some x =>
    have hm : b ∈ trk h H := List.mem_filter.mpr ⟨List.mem_range.mpr (Heap.lt_size e'), by simp [q]⟩
    have z : (hidT h H).get? b = none := PySem.W.hideAll_none (trk h H) hm
    rw [z] at e; cases e

/-! ### OpenK's ledger, filled with every new object but one -/
def allNews (g h : Heap) (L : Addr) : List (Addr × Obj) := (List.range h.objs.size).filterMap fun a => if a = L ∨ (g.get? a).isSome = true then none else (h.get? a).map fun o => (a, o)
theorem mem_allNews {g h : Heap} {L a : Addr} {o : Obj} (h1 : a ≠ L) (h2 : g.get? a = none) (h3 : h.get? a = some o) : (a, o) ∈ allNews g h L :=
  List.mem_filterMap.mpr ⟨a, List.mem_range.mpr (Heap.lt_size h3), by simp [h1, h2, h3]⟩
theorem of_mem_allNews {g h : Heap} {L : Addr} {p : Addr × Obj} (hp : p ∈ allNews g h L) : p.1 ≠ L ∧ g.get? p.1 = none ∧ h.get? p.1 = some p.2 := by
  obtain ⟨b, _, e⟩ := List.mem_filterMap.mp hp
  split at e
  · cases e
  · rename_i hn
    cases q : h.get? b with
    | none => rw [q] at e; simp at e
    | some u =>
      rw [q] at e
      simp only [Option.map_some, Option.some.injEq] at e
      subst e
      refine ⟨fun z => hn (.inl z), ?_, q⟩
      show g.get? b = none
      cases r : g.get? b with
      | none => rfl
      | some v => exact (hn (.inr (by simp [r]))).elim
def rest (g h : Heap) (L d : Addr) : List (Addr × Obj) := (allNews g h L).filter fun p => decide (p.1 ≠ d)
theorem rest_ne {g h : Heap} {L d : Addr} : ∀ p ∈ rest g h L d, p.1 ≠ d := fun p hp => of_decide_eq_true (List.mem_filter.mp hp).2
theorem mem_rest {g h : Heap} {L d a : Addr} {o : Obj} (h1 : a ≠ L) (h2 : g.get? a = none) (h3 : h.get? a = some o) (h4 : a ≠ d) : (a, o) ∈ rest g h L d :=
  List.mem_filter.mpr ⟨mem_allNews h1 h2 h3, decide_eq_true h4⟩
theorem news_all {g h : Heap} {L : Addr} : News g L h (allNews g h L) := fun p hp => let ⟨a, b, c⟩ := of_mem_allNews hp; ⟨c, a, b⟩
theorem news_at {g h : Heap} {L d : Addr} {o : Obj} (h1 : d ≠ L) (h2 : g.get? d = none) (h3 : h.get? d = some o) : News g L h ((d, o) :: rest g h L d) := fun p hp => by
  rcases List.mem_cons.mp hp with rfl | hp
  · exact ⟨h3, h1, h2⟩
  · exact news_all p (List.mem_filter.mp hp).1
/-- behind a rule that changed d alone: all else but the frame is kept -/
theorem kept_of_news {g h h' : Heap} {L d : Addr} {m : Str → Option Value} (k : ∀ b o, g.get? b = some o → h.get? b = some o) (F : Fr g L h' m) (N : News g L h' (rest g h L d)) :
    ∀ b o, b ≠ L → b ≠ d → h.get? b = some o → h'.get? b = some o := fun b o h1 h2 e => by
  cases q : g.get? b with
  | some u =>
    have := k b u q
    rw [e] at this; cases this
    exact F.keep b _ q
  | none => exact (N (b, o) (mem_rest h1 q e h2)).1
end L2

namespace L2
open PySem PySem.Spec PyProof.Rows

/-- the module's facts, over the base: the heap at the law's entry without what is tracked there -/
structure Mod (K : PySem.W.Frag) (mg : Str → Option Value) (base : Heap) : Prop where
  kin : K.In base
  glob : base.Ns mainGlobals mg
  blt : ∃ mb, base.Ns builtinsNs mb ∧ ∀ x : Str, x ≠ "__name__" → mb x = bootBuiltins x
  nolimit : base.NoLimit

/-- the context: a def's body (or a comprehension's block) running. base: fixed through the whole law; s₀, H₀: the entry; outer: the frames whose slots others may change (a def's callers); stack: all frames that run;
   ex: iterators that were made ahead of the entry and are walked here (a comprehension's); fn: the names whose cells were made at the entry (a def: all; a comprehension's block: its own); calm: not within an except suite; pn: pins that every state bears; xe: what is wanted of an exception that leaves the code -/
structure Cx where
  prog : Program
  w : World
  K : PySem.W.Frag
  mg : Str → Option Value
  base : Heap
  A : Around
  N : List Str
  s₀ : Shared
  H₀ : Hp
  env : Env
  outer : List Env
  stack : List Env
  ex : List Addr
  fn : Str → Bool
  calm : Bool
  pn : List (Addr × Obj)
  xe : Value → Shared → Prop
/-- the callers' frames -/
def frs (l : List Env) : List Addr := l.filterMap (·.frame)
abbrev Cx.fs (X : Cx) : List Addr := frs X.outer

def Vis (sc : Scope) (x : Str) : Prop := sc.names.lookup x = some .local ∨ sc.names.lookup x = some .cell ∨ sc.names.lookup x = some .free
def Loc (sc : Scope) (x : Str) : Prop := sc.names.lookup x = some .local ∨ sc.names.lookup x = some .cell
def Look (env : Env) (h : Heap) (m : Str → Option Value) (x : Str) (u : Value) : Prop :=
  (env.kindOf x = some .local ∧ m x = some u) ∨ ((env.kindOf x = some .cell ∨ env.kindOf x = some .free) ∧ ∃ c, env.cells.lookup x = some c ∧ h.IsCell c (some u))

structure Cx.Ok (X : Cx) : Prop where
  mod : Mod X.K X.mg X.base
  kind : X.env.scope.kind = .function
  glob : X.env.globals = mainGlobals
  blt : X.env.builtins = builtinsNs
  above : X.s₀.heap.objs.size ≤ X.env.locals
  inj : ∀ x y c, X.env.cells.lookup x = some c → X.env.cells.lookup y = some c → x = y
  has : ∀ x, (X.env.kindOf x = some .cell ∨ X.env.kindOf x = some .free) → ∃ c, X.env.cells.lookup x = some c
  cab : ∀ x c, X.fn x = true → X.env.cells.lookup x = some c → X.s₀.heap.objs.size ≤ c
  hd : X.calm = true → X.A.handled = none
  frames : X.A.frames = some X.stack
  stk : X.stack = X.outer ∨ (X.stack = X.env :: X.outer ∧ X.env.frame = some X.env.locals)
  exf : ∀ b ∈ X.ex, b ≠ X.env.locals ∧ ∀ x c, X.env.cells.lookup x = some c → c ≠ b
  bs : ∀ b o, X.base.get? b = some o → X.s₀.heap.get? b = some o ∧ X.H₀ b = none
  bsz : X.base.objs.size ≤ X.s₀.heap.objs.size
  noex : ∀ b o, X.base.get? b = some o → b ∉ X.ex
  exfs : ∀ b ∈ X.ex, b ∉ X.fs
  funs : X.s₀.heap.FunFrames X.base X.outer
  frf : ∀ b ∈ X.fs, X.H₀ b = none

structure Inv (X : Cx) (pins : List (Addr × Obj)) (σ : List (Option V)) (H : Hp) (s : Shared) : Prop where
  ok : X.Ok
  os : s.os = X.s₀.os
  bare : AllBare s.gens
  base : Un X.fs X.ex X.H₀ H X.s₀.heap s.heap
  loc : ∃ m, s.heap.Ns X.env.locals m ∧ ∀ (i : Nat) (x : Str) (v : V), X.N[i]? = some x → σ[i]? = some (some v) → Vis X.env.scope x → ∃ u, RelV v u ∧ Look X.env s.heap m x u
  cell : ∀ x c, X.env.cells.lookup x = some c → ∃ v, s.heap.IsCell c v
  free : H X.env.locals = none
  freeC : ∀ x c, X.env.cells.lookup x = some c → H c = none
  pin : ∀ p ∈ X.pn ++ pins, s.heap.get? p.1 = some p.2 ∧ H p.1 = none ∧ p.1 ≠ X.env.locals ∧ p.1 ∉ X.fs ∧ ∀ v, p.2.data ≠ .cell v
  hok : HOk X.prog X.w H s.heap
  len : σ.length = X.N.length

section
variable {X : Cx} {pins : List (Addr × Obj)} {σ : List (Option V)} {H H' : Hp} {s : Shared} {h' : Heap}

theorem Cx.Ok.nofr (ok : X.Ok) {b : Addr} {o : Obj} (e : X.base.get? b = some o) : b ∉ X.fs := fun hb => by
  have := (ok.funs.mem hb).1
  rw [e] at this; cases this
theorem Inv.bs (I : Inv X pins σ H s) : ∀ b o, X.base.get? b = some o → s.heap.get? b = some o ∧ H b = none := fun b o e =>
  ⟨I.base.keep b o (I.ok.bs b o e).1 (I.ok.bs b o e).2 (I.ok.nofr e) (I.ok.noex b o e), I.base.free b o (I.ok.bs b o e).1 (I.ok.bs b o e).2 (I.ok.noex b o e)⟩
theorem Inv.bk (I : Inv X pins σ H s) : ∀ b o, X.base.get? b = some o → s.heap.get? b = some o := fun b o e => (I.bs b o e).1
theorem Inv.mod (I : Inv X pins σ H s) : Mod X.K X.mg X.base := I.ok.mod
theorem Inv.kIn (I : Inv X pins σ H s) : X.K.In s.heap := I.ok.mod.kin.keeps I.bk
theorem Inv.nolimit (I : Inv X pins σ H s) : s.heap.NoLimit := I.ok.mod.nolimit.keeps I.bk
/-- the frame over the base: for OpenK's rules (K.In X.base is I.mod.kin) -/
theorem Inv.fr (I : Inv X pins σ H s) : ∃ m, Fr X.base X.env.locals s.heap m :=
  let ⟨m, hn, _⟩ := I.loc
  ⟨m, hn, I.bk, Nat.le_trans I.ok.bsz I.ok.above⟩
theorem Inv.lt (I : Inv X pins σ H s) : X.env.locals < s.heap.objs.size := let ⟨_, hn, _⟩ := I.loc; hn.lt
theorem Inv.sz (I : Inv X pins σ H s) : X.s₀.heap.objs.size ≤ s.heap.objs.size := Nat.le_trans I.ok.above (Nat.le_of_lt I.lt)
theorem Inv.nofs (I : Inv X pins σ H s) {a : Addr} (h : s.heap.objs.size ≤ a) : a ∉ X.fs := fun hb => by
  obtain ⟨_, o, ho, _⟩ := I.ok.funs.mem hb
  exact absurd (Nat.lt_of_lt_of_le (Heap.lt_size ho) (Nat.le_trans I.sz h)) (Nat.lt_irrefl _)
theorem Inv.cne (I : Inv X pins σ H s) : ∀ x c, X.env.cells.lookup x = some c → c ≠ X.env.locals := fun x c e z => by
  obtain ⟨v, o, ho, hd⟩ := I.cell x c e
  obtain ⟨m, ⟨o', es, ep, ho', hd', _⟩, _⟩ := I.loc
  rw [z, ho'] at ho; cases ho; rw [hd'] at hd; cases hd
theorem Inv.funs (I : Inv X pins σ H s) : s.heap.FunFrames X.base X.outer := by
  have all : ∀ (l : List Env), (∀ b ∈ frs l, b ∈ X.fs) → X.s₀.heap.FunFrames X.base l → s.heap.FunFrames X.base l := by
    intro l
    induction l with
    | nil => intro _ _; trivial
    | cons env r ih =>
      intro hs hl
      obtain ⟨hk, ⟨L, o, hf, hn, ho, hd⟩, hr⟩ := hl
      have hL : L ∈ X.fs := hs L (by unfold frs; rw [List.filterMap_cons, hf]; exact List.mem_cons_self)
      obtain ⟨sl, e⟩ := I.base.slot L o ho (I.ok.frf L hL) hL fun z => I.ok.exfs L z hL
      exact ⟨hk, ⟨L, _, hf, hn, e, hd⟩, ih (fun b hb => hs b (by unfold frs; rw [List.filterMap_cons, hf]; exact List.mem_cons_of_mem _ hb)) hr⟩
  exact all X.outer (fun _ hb => hb) I.ok.funs

/-- the frames that run, for a call -/
theorem Inv.stack (I : Inv X pins σ H s) : s.heap.FunFrames X.base X.stack := by
  rcases I.ok.stk with e | ⟨e, hf⟩
  · rw [e]; exact I.funs
  · rw [e]
    obtain ⟨m, hn, _⟩ := I.loc
    refine .cons (by rw [I.ok.kind]; decide) hf hn ?_ I.funs
    exact Heap.get?_none_of_le (Nat.le_trans I.ok.bsz I.ok.above)
theorem Inv.stkSub (I : Inv X pins σ H s) : ∀ b ∈ frs X.stack, b ∈ X.env.locals :: X.fs := fun b hb => by
  rcases I.ok.stk with e | ⟨e, hf⟩
  · rw [e] at hb; exact List.mem_cons_of_mem _ hb
  · rw [e] at hb
    unfold frs at hb
    rw [List.filterMap_cons, hf] at hb
    exact hb
theorem Inv.stkFree (I : Inv X pins σ H s) : ∀ b ∈ frs X.stack, H b = none := fun b hb => by
  rcases List.mem_cons.mp (I.stkSub b hb) with e | hb
  · rw [e]; exact I.free
  · obtain ⟨_, o, ho, _⟩ := I.ok.funs.mem hb
    exact I.base.free b o ho (I.ok.frf b hb) fun z => I.ok.exfs b z hb

/-- THE STEP: the untracked objects but the frame and the records at ch are kept (the callers' frames up to slots), the frame's map is kept, the new abstract heap is held -/
theorem Inv.step {g' : Array GenState} {t' : Nat} {d' : Drawn} {ch : List Addr} (I : Inv X pins σ H s)
    (hch : ∀ b ∈ ch, (b ∈ X.ex ∨ X.s₀.heap.objs.size ≤ b) ∧ b ≠ X.env.locals ∧ (∀ x c, X.env.cells.lookup x = some c → c ≠ b) ∧ ∀ p ∈ X.pn ++ pins, p.1 ≠ b)
    (keep : ∀ b o, b ≠ X.env.locals → b ∉ X.fs → b ∉ ch → s.heap.get? b = some o → H b = none → h'.get? b = some o)
    (slot : ∀ b o, b ≠ X.env.locals → b ∈ X.fs → b ∉ ch → s.heap.get? b = some o → H b = none → ∃ sl, h'.get? b = some { o with slots := sl }) (free : ∀ b o, b ∉ ch → s.heap.get? b = some o → H b = none → H' b = none)
    (there : ∀ b o, b ∉ ch → s.heap.get? b = some o → ∃ o', h'.get? b = some o')
    (tups : ∀ b xs, H b = some (.tup xs) → H' b = some (.tup xs)) (frzs : ∀ b o u, H b = some (.frz o u) → H' b = some (.frz o u)) (tbls : ∀ b ps, H b = some (.tbl ps) → ∃ more, H' b = some (.tbl (ps ++ more)))
    (ns : ∀ m, s.heap.Ns X.env.locals m → h'.Ns X.env.locals m) (hok : HOk X.prog X.w H' h') (hg : AllBare g') :
    Inv X pins σ H' { s with heap := h', gens := g', drawn := d', toks := t' } := by
  have neL : ∀ b o, X.s₀.heap.get? b = some o → b ≠ X.env.locals := fun b o e => Nat.ne_of_lt (Nat.lt_of_lt_of_le (Heap.lt_size e) I.ok.above)
  have neC : ∀ b o, X.s₀.heap.get? b = some o → b ∉ X.ex → b ∉ ch := fun b o e hx hb => by
    rcases (hch b hb).1 with z | z
    · exact hx z
    · exact absurd (Nat.lt_of_lt_of_le (Heap.lt_size e) z) (Nat.lt_irrefl _)
  have cellK : ∀ x c, X.env.cells.lookup x = some c → ∀ v, s.heap.IsCell c v → h'.IsCell c v := fun x c e v ⟨o, ho, hd⟩ => by
    have nch : c ∉ ch := fun z => (hch c z).2.2.1 x c e rfl
    by_cases hc : c ∈ X.fs
    · obtain ⟨sl, q⟩ := slot c o (I.cne x c e) hc nch ho (I.freeC x c e)
      exact ⟨_, q, hd⟩
    · exact ⟨o, keep c o (I.cne x c e) hc nch ho (I.freeC x c e), hd⟩
  refine ⟨I.ok, I.os, hg, ⟨fun b o e n hb hx => ?_, fun b o e n hb hx => ?_, fun b o e n hx => ?_, fun b o e hx => ?_, fun b xs e => tups b xs (I.base.tups b xs e), fun b o xs e => frzs b o xs (I.base.frzs b o xs e), fun b ps e => ?_⟩, ?_, fun x c e => ?_, ?_, fun x c e => ?_, fun p hp => ?_, hok, I.len⟩
  · exact keep b o (neL b o e) hb (neC b o e hx) (I.base.keep b o e n hb hx) (I.base.free b o e n hx)
  · obtain ⟨sl, e1⟩ := I.base.slot b o e n hb hx
    obtain ⟨sl', e2⟩ := slot b _ (neL b o e) hb (neC b o e hx) e1 (I.base.free b o e n hx)
    exact ⟨sl', e2⟩
  · obtain ⟨o', e1⟩ := I.base.there b o e hx
    exact free b o' (neC b o e hx) e1 (I.base.free b o e n hx)
  · obtain ⟨o', e1⟩ := I.base.there b o e hx
    exact there b o' (neC b o e hx) e1
  · obtain ⟨m1, e1⟩ := I.base.tbls b ps e
    obtain ⟨m2, e2⟩ := tbls b _ e1
    exact ⟨m1 ++ m2, by rw [e2, Array.append_assoc]⟩
  · obtain ⟨m, hn, hl⟩ := I.loc
    refine ⟨m, ns m hn, fun i x v e1 e2 e3 => ?_⟩
    obtain ⟨u, r, l⟩ := hl i x v e1 e2 e3
    refine ⟨u, r, ?_⟩
    rcases l with l | ⟨k, c, e, z⟩
    · exact .inl l
    · exact .inr ⟨k, c, e, cellK x c e _ z⟩
  · obtain ⟨v, z⟩ := I.cell x c e
    exact ⟨v, cellK x c e v z⟩
  · obtain ⟨m, ⟨o, _, _, ho, _⟩, _⟩ := I.loc
    exact free _ o (fun z => (hch _ z).2.1 rfl) ho I.free
  · obtain ⟨v, o, ho, hd⟩ := I.cell x c e
    exact free c o (fun z => (hch c z).2.2.1 x c e rfl) ho (I.freeC x c e)
  · obtain ⟨e, n, ne, nf, d⟩ := I.pin p hp
    have nch : p.1 ∉ ch := fun z => (hch p.1 z).2.2.2 p hp rfl
    exact ⟨keep p.1 p.2 ne nf nch e n, free p.1 p.2 nch e n, ne, nf, d⟩
/-- .. where the frame's own object is kept too -/
theorem Inv.un {t' : Nat} (I : Inv X pins σ H s) (u : Un X.fs [] H H' s.heap h') (hok : HOk X.prog X.w H' h') : Inv X pins σ H' { s with heap := h', toks := t' } := by
  obtain ⟨m, ⟨o, es, ep, ho, r⟩, _⟩ := id I.loc
  obtain ⟨sl, hL⟩ := u.any ho I.free (by simp)
  exact I.step (g' := s.gens) (d' := s.drawn) (ch := []) (fun _ z => nomatch z) (fun b o _ hb _ e n => u.keep b o e n hb (by simp)) (fun b o _ hb _ e n => u.slot b o e n hb (by simp)) (fun b o _ e n => u.free b o e n (by simp)) (fun b o _ e => u.there b o e (by simp)) u.tups u.frzs u.tbls (fun m' hm => by
    obtain ⟨o', es', ep', ho', r'⟩ := hm
    rw [ho] at ho'; cases ho'
    exact ⟨_, es', ep', hL, r'⟩) hok I.bare
/-- behind a call (or a comprehension's block): the slots of this frame may have changed too, the records at ch may have turned -/
theorem Inv.call {g' : Array GenState} {t' : Nat} {d' : Drawn} {ch : List Addr} (I : Inv X pins σ H s) (u : Un (frs X.stack) ch H H' s.heap h') (hok : HOk X.prog X.w H' h') (hg : AllBare g')
    (hch : ∀ b ∈ ch, (b ∈ X.ex ∨ X.s₀.heap.objs.size ≤ b) ∧ b ≠ X.env.locals ∧ (∀ x c, X.env.cells.lookup x = some c → c ≠ b) ∧ ∀ p ∈ X.pn ++ pins, p.1 ≠ b) :
    Inv X pins σ H' { s with heap := h', gens := g', drawn := d', toks := t' } := by
  obtain ⟨m, ⟨o, es, ep, ho, r⟩, _⟩ := id I.loc
  obtain ⟨sl, hL⟩ := u.any ho I.free fun z => (hch _ z).2.1 rfl
  exact I.step (ch := ch) hch (fun b o hL hb hc e n => u.keep b o e n (fun z => (List.mem_cons.mp (I.stkSub b z)).elim hL hb) hc) (fun b o _ _ hc e n => u.any e n hc) (fun b o hc e n => u.free b o e n hc) (fun b o hc e => u.there b o e hc) u.tups u.frzs u.tbls (fun m' hm => by
    obtain ⟨o', es', ep', ho', r'⟩ := hm
    rw [ho] at ho'; cases ho'
    exact ⟨_, es', ep', hL, r'⟩) hok hg
/-- an untracked record of ours (an iterator) has turned -/
theorem Inv.turned {t' : Nat} {it : Addr} (I : Inv X pins σ H s) (k : ∀ b o, b ≠ it → s.heap.get? b = some o → h'.get? b = some o) (hn : H it = none) (hL : it ≠ X.env.locals)
    (h1 : it ∈ X.ex ∨ X.s₀.heap.objs.size ≤ it) (h2 : ∀ x c, X.env.cells.lookup x = some c → c ≠ it) (h3 : ∀ p ∈ X.pn ++ pins, p.1 ≠ it) : Inv X pins σ H { s with heap := h', toks := t' } := by
  have nit : ∀ b u, H b = some u → b ≠ it := fun b u e z => by rw [z, hn] at e; cases e
  refine I.step (g' := s.gens) (d' := s.drawn) (ch := [it]) (fun b hb => ?_) (fun b o _ _ hc e _ => k b o (fun z => hc (by simp [z])) e) (fun b o _ _ hc e _ => ⟨o.slots, k b o (fun z => hc (by simp [z])) e⟩) (fun _ _ _ _ n => n)
    (fun b o hc e => ⟨o, k b o (fun z => hc (by simp [z])) e⟩) (fun _ _ e => e) (fun _ _ _ e => e) (fun b ps e => ⟨#[], by rw [e]; simp⟩) (fun m hm => ?_) (fun b u e => ?_) I.bare
  · have e : b = it := by simpa using hb
    subst e
    exact ⟨h1, hL, h2, h3⟩
  · obtain ⟨o, es, ep, ho, r⟩ := hm
    exact ⟨o, es, ep, k _ o (Ne.symm hL) ho, r⟩
  · refine (I.hok b u e).stay (fun c v hc q => k c v ?_ q) (fun _ q => q) fun _ _ q => q
    rcases hc with z | z
    · rw [z]; exact nit b u e
    · exact nit c _ z
theorem Inv.tok (I : Inv X pins σ H s) (t : Nat) : Inv X pins σ H { s with toks := t } := I.un (h' := s.heap) (t' := t) Un.refl I.hok
/-- all objects kept -/
theorem Inv.kept {t' : Nat} (I : Inv X pins σ H s) (k : ∀ b u, s.heap.get? b = some u → h'.get? b = some u) : Inv X pins σ H { s with heap := h', toks := t' } := I.un (Un.kept k) (I.hok.kept k)
/-- a new object laid and tracked -/
theorem Inv.laid {a : Addr} {o : HO} {t' : Nat} (I : Inv X pins σ H s) (k : ∀ b u, s.heap.get? b = some u → h'.get? b = some u) (hp : s.heap.objs.size ≤ a) (new : ObjOk X.prog X.w (upd H a o) h' a o) :
    Inv X pins σ (upd H a o) { s with heap := h', toks := t' } := I.un (Un.laid k hp (I.hok.fresh hp)) (I.hok.laid k hp new)
/-- an object written -/
theorem Inv.write {x e : Addr} {o : HO} {t' : Nat} (I : Inv X pins σ H s) (mu : Mut (H x)) (he : e = x ∨ H e = some (.own x)) (k : ∀ b u, b ≠ e → s.heap.get? b = some u → h'.get? b = some u) (heo : ∃ u, h'.get? e = some u)
    (new : ObjOk X.prog X.w (upd H x o) h' x o) : Inv X pins σ (upd H x o) { s with heap := h', toks := t' } := I.un (Un.write mu he k heo) (I.hok.write mu he k heo new)
/-- forgetting slots, pins -/
theorem Inv.weak {σ' : List (Option V)} (I : Inv X pins σ H s) (hl : σ'.length = σ.length) (w : ∀ (i : Nat) v, σ'[i]? = some (some v) → σ[i]? = some (some v)) : Inv X pins σ' H s :=
  ⟨I.ok, I.os, I.bare, I.base, let ⟨m, hn, hl'⟩ := I.loc; ⟨m, hn, fun i x v e1 e2 e3 => hl' i x v e1 (w i v e2) e3⟩, I.cell, I.free, I.freeC, I.pin, I.hok, hl.trans I.len⟩
theorem Inv.pins_of {pins' : List (Addr × Obj)} (I : Inv X pins σ H s) (h : ∀ p ∈ pins', s.heap.get? p.1 = some p.2 ∧ H p.1 = none ∧ p.1 ≠ X.env.locals ∧ p.1 ∉ X.fs ∧ ∀ v, p.2.data ≠ .cell v) : Inv X pins' σ H s :=
  ⟨I.ok, I.os, I.bare, I.base, I.loc, I.cell, I.free, I.freeC, fun p hp => (List.mem_append.mp hp).elim (fun z => I.pin p (List.mem_append_left _ z)) (h p), I.hok, I.len⟩

theorem nodup_ix {N : List Str} (hN : N.Nodup) {i j : Nat} {x : Str} (a : N[i]? = some x) (b : N[j]? = some x) : i = j := by
  obtain ⟨h1, e1⟩ := List.getElem?_eq_some_iff.mp a
  obtain ⟨h2, e2⟩ := List.getElem?_eq_some_iff.mp b
  exact (List.getElem_inj hN).mp (e1.trans e2.symm)

/-- a name is stored; what changed -/
theorem store_ok2 {M : Model} {A : Around} {E : Value → Shared → Prop} {i : Nat} {x : Str} {v : V} {u : Value} {Q : Unit → Shared → Prop} (I : Inv X pins σ H s) (hN : X.N.Nodup) (hi : X.N[i]? = some x) (hx : Loc X.env.scope x) (r : RelV v u)
    (h : ∀ s', Inv X pins (σ.set i (some v)) H s' → (∃ a, Heap.SameBut a s.heap s'.heap ∧ (a = X.env.locals ∨ X.env.cells.lookup x = some a)) → Q () s') (hf : X.fn x = true ∨ X.env.scope.names.lookup x = some .local := by first | exact .inl rfl | exact .inr rfl | assumption) : wpAny M A (storeName X.env x u) Q E s := by
  obtain ⟨m, hn, hl⟩ := id I.loc
  have hcls : (X.env.scope.kind == .class || (X.env.scope.kind == .module && X.env.locals != X.env.globals)) = false := by rw [I.ok.kind]; rfl
  have hiσ : i < σ.length := by rw [I.len]; exact (List.getElem?_eq_some_iff.mp hi).1
  have cne := I.cne
  have tracked : ∀ {a : Addr} {h' : Heap}, (∃ o, s.heap.get? a = some o ∧ H a = none) → Heap.SameBut a s.heap h' → HOk X.prog X.w H h' := fun {a h'} ha hs b ob e => by
    obtain ⟨_, _, hfree⟩ := ha
    refine (I.hok b ob e).stay (fun c w' hc q => (hs.2 c ?_).trans q) (fun _ q => q) fun _ _ q => q
    rintro rfl
    rcases hc with rfl | hc
    · rw [hfree] at e; cases e
    · rw [hfree] at hc; cases hc
  rcases hx with hk | hk
  · refine wpAny_storeName_local hk hn (fun h' hn' hs => ?_) hcls
    obtain ⟨oL, _, _, hoL, _⟩ := id hn
    refine h _ ⟨I.ok, I.os, I.bare, ⟨fun b o e n hb hx => ?_, fun b o e n hb hx => ?_, I.base.free, fun b o e hx => ?_, I.base.tups, I.base.frzs, I.base.tbls⟩, ⟨_, hn', fun j y v' e1 e2 e3 => ?_⟩, fun y c e => ?_, I.free, I.freeC, fun p hp => ?_, tracked ⟨oL, hoL, I.free⟩ hs, by simpa using I.len⟩ ⟨_, hs, .inl rfl⟩
    · exact (hs.2 b (Nat.ne_of_lt (Nat.lt_of_lt_of_le (Heap.lt_size e) I.ok.above))).trans (I.base.keep b o e n hb hx)
    · obtain ⟨sl, e1⟩ := I.base.slot b o e n hb hx
      exact ⟨sl, (hs.2 b (Nat.ne_of_lt (Nat.lt_of_lt_of_le (Heap.lt_size e) I.ok.above))).trans e1⟩
    · obtain ⟨o', e1⟩ := I.base.there b o e hx
      exact ⟨o', (hs.2 b (Nat.ne_of_lt (Nat.lt_of_lt_of_le (Heap.lt_size e) I.ok.above))).trans e1⟩
    · by_cases hj : j = i
      · subst hj
        rw [hi] at e1; cases e1
        rw [List.getElem?_set_self hiσ] at e2
        cases e2
        exact ⟨u, r, .inl ⟨hk, by simp⟩⟩
      · rw [List.getElem?_set_ne (Ne.symm hj)] at e2
        obtain ⟨u', r', q⟩ := hl j y v' e1 e2 e3
        refine ⟨u', r', ?_⟩
        rcases q with ⟨k, e⟩ | ⟨k, c, e, z⟩
        · refine .inl ⟨k, ?_⟩
          have : y ≠ x := fun e => hj (nodup_ix hN e1 (e ▸ hi))
          simp [this, e]
        · exact .inr ⟨k, c, e, z.sameBut hs (cne y c e)⟩
    · obtain ⟨w', z⟩ := I.cell y c e
      exact ⟨w', z.sameBut hs (cne y c e)⟩
    · obtain ⟨e, n, ne, nf, d⟩ := I.pin p hp
      exact ⟨(hs.2 p.1 ne).trans e, n, ne, nf, d⟩
  · have hfn : X.fn x = true := by
      rcases hf with z | z
      · exact z
      · rw [z] at hk; cases hk
    obtain ⟨c, hc⟩ := I.ok.has x (.inl hk)
    obtain ⟨w', z⟩ := I.cell x c hc
    refine wpAny_storeName_cell I.ok.kind hk hc z (fun h' hc' hs => ?_)
    obtain ⟨oc, hoc, hocd⟩ := id z
    refine h { s with heap := h' } ⟨I.ok, I.os, I.bare, ⟨fun b o e n hb hx => ?_, fun b o e n hb hx => ?_, I.base.free, fun b o e hx => ?_, I.base.tups, I.base.frzs, I.base.tbls⟩, ⟨m, hn.sameBut hs (Ne.symm (cne x c hc)), fun j y v' e1 e2 e3 => ?_⟩, fun y c' e => ?_, I.free, I.freeC, fun p hp => ?_, tracked ⟨oc, hoc, I.freeC x c hc⟩ hs, by simpa using I.len⟩ ⟨c, hs, .inr hc⟩
    · exact (hs.2 b (Nat.ne_of_lt (Nat.lt_of_lt_of_le (Heap.lt_size e) (I.ok.cab x c hfn hc)))).trans (I.base.keep b o e n hb hx)
    · obtain ⟨sl, e1⟩ := I.base.slot b o e n hb hx
      exact ⟨sl, (hs.2 b (Nat.ne_of_lt (Nat.lt_of_lt_of_le (Heap.lt_size e) (I.ok.cab x c hfn hc)))).trans e1⟩
    · obtain ⟨o', e1⟩ := I.base.there b o e hx
      exact ⟨o', (hs.2 b (Nat.ne_of_lt (Nat.lt_of_lt_of_le (Heap.lt_size e) (I.ok.cab x c hfn hc)))).trans e1⟩
    · by_cases hj : j = i
      · subst hj
        rw [hi] at e1; cases e1
        rw [List.getElem?_set_self hiσ] at e2
        cases e2
        exact ⟨u, r, .inr ⟨.inl hk, c, hc, hc'⟩⟩
      · rw [List.getElem?_set_ne (Ne.symm hj)] at e2
        obtain ⟨u', r', q⟩ := hl j y v' e1 e2 e3
        refine ⟨u', r', ?_⟩
        rcases q with q | ⟨k, c', e, z'⟩
        · exact .inl q
        · refine .inr ⟨k, c', e, z'.sameBut hs ?_⟩
          rintro rfl
          exact hj (nodup_ix hN e1 (I.ok.inj _ _ _ e hc ▸ hi))
    · by_cases hcc : c' = c
      · subst hcc; exact ⟨_, hc'⟩
      · obtain ⟨w2, z2⟩ := I.cell y c' e
        exact ⟨w2, z2.sameBut hs hcc⟩
    · obtain ⟨e, n, ne, nf, d⟩ := I.pin p hp
      refine ⟨(hs.2 p.1 ?_).trans e, n, ne, nf, d⟩
      intro q
      rw [q, hoc] at e
      have q' : oc = p.2 := Option.some.inj e
      exact d w' (by rw [← q']; exact hocd)
theorem store_ok {M : Model} {A : Around} {E : Value → Shared → Prop} {i : Nat} {x : Str} {v : V} {u : Value} {Q : Unit → Shared → Prop} (I : Inv X pins σ H s) (hN : X.N.Nodup) (hi : X.N[i]? = some x) (hx : Loc X.env.scope x) (r : RelV v u)
    (h : ∀ s', Inv X pins (σ.set i (some v)) H s' → Q () s') (hf : X.fn x = true ∨ X.env.scope.names.lookup x = some .local := by first | exact .inl rfl | exact .inr rfl | assumption) : wpAny M A (storeName X.env x u) Q E s :=
  store_ok2 I hN hi hx r (fun s' I' _ => h s' I') hf
/-- behind a call or a block, the state as it is -/
theorem Inv.call' {s' : Shared} {ch : List Addr} (I : Inv X pins σ H s) (ho : s'.os = s.os) (u : Un (frs X.stack) ch H H' s.heap s'.heap) (hok : HOk X.prog X.w H' s'.heap) (hg : AllBare s'.gens)
    (hch : ∀ b ∈ ch, (b ∈ X.ex ∨ X.s₀.heap.objs.size ≤ b) ∧ b ≠ X.env.locals ∧ (∀ x c, X.env.cells.lookup x = some c → c ≠ b) ∧ ∀ p ∈ X.pn ++ pins, p.1 ≠ b) : Inv X pins σ H' s' := by
  obtain ⟨h', g', d', t', o'⟩ := s'
  have e : o' = s.os := ho
  subst e
  exact I.call (g' := g') (t' := t') (d' := d') u hok hg hch
end

/-! ### the judgements -/
/-- an exception: its class, its own dict's address (where it has one), the abstract heap behind it -/
abbrev XK := Value → Option Addr → Hp → Prop
abbrev St := List (Option V)
abbrev VK := V → Hp → Prop
/-- an expression's reading; a test's; an argument list's -/
abbrev TE := St → Hp → VK → Prop
abbrev TT := St → Hp → (Bool → Hp → Prop) → Prop
abbrev TA := St → Hp → (List V → Hp → Prop) → Prop
/-- what is wanted behind a statement -/
structure Ends where
  nx : St → Hp → Prop
  rt : VK
  bk : St → Hp → Prop := fun _ _ => False
  ct : St → Hp → Prop := fun _ _ => False
abbrev TS := Ends → St → Hp → Prop

def EP (X : Cx) (pins : List (Addr × Obj)) (σ : St) (Q : VK) (u : Value) (s' : Shared) : Prop := ∃ v H', Inv X pins σ H' s' ∧ RelV v u ∧ Q v H'
def TP (X : Cx) (pins : List (Addr × Obj)) (σ : St) (Q : Bool → Hp → Prop) (b : Bool) (s' : Shared) : Prop := ∃ H', Inv X pins σ H' s' ∧ Q b H'
def AP (X : Cx) (pins : List (Addr × Obj)) (σ : St) (Q : List V → Hp → Prop) (us : List Value) (s' : Shared) : Prop := ∃ vs H', Inv X pins σ H' s' ∧ Vals vs us ∧ Q vs H'
def SP (X : Cx) (pins : List (Addr × Obj)) (D : Ends) (f : Flow) (s' : Shared) : Prop :=
  match f with
  | .next => ∃ σ' H', Inv X pins σ' H' s' ∧ D.nx σ' H'
  | .brk => ∃ σ' H', Inv X pins σ' H' s' ∧ D.bk σ' H'
  | .cont => ∃ σ' H', Inv X pins σ' H' s' ∧ D.ct σ' H'
  | .ret u => ∃ v σ' H', Inv X pins σ' H' s' ∧ RelV v u ∧ D.rt v H'

def PE (X : Cx) (e : Expr) (t : TE) : Prop :=
  ∀ (pins : List (Addr × Obj)) (s : Shared) (σ : St) (H : Hp) (Q : VK), Inv X pins σ H s → t σ H Q → wpAny (model X.prog X.w) X.A (eval e X.env) (EP X pins σ Q) X.xe s
def PT (X : Cx) (e : Expr) (t : TT) : Prop :=
  ∀ (pins : List (Addr × Obj)) (s : Shared) (σ : St) (H : Hp) (Q : Bool → Hp → Prop), Inv X pins σ H s → t σ H Q → wpAny (model X.prog X.w) X.A (isTrue e X.env (eval e X.env)) (TP X pins σ Q) X.xe s
/-- a test whatever its 'whole' is (and, or) -/
def PW (X : Cx) (e : Expr) (t : TT) : Prop :=
  ∀ (whole : Sem Value) (pins : List (Addr × Obj)) (s : Shared) (σ : St) (H : Hp) (Q : Bool → Hp → Prop), Inv X pins σ H s → t σ H Q → wpAny (model X.prog X.w) X.A (isTrue e X.env whole) (TP X pins σ Q) X.xe s
theorem PW.pt {X : Cx} {e : Expr} {t : TT} (h : PW X e t) : PT X e t := h _
/-- an argument list (no star), from the left -/
def PA (X : Cx) (es : List Expr) (t : TA) : Prop :=
  ∀ (pos : Pos) (pins : List (Addr × Obj)) (s : Shared) (σ : St) (H : Hp) (Q : List V → Hp → Prop), Inv X pins σ H s → t σ H Q → wpAny (model X.prog X.w) X.A (spliced (backTo pos (starEach es X.env))) (AP X pins σ Q) X.xe s
def PS (X : Cx) (st : Stmt) (t : TS) : Prop :=
  ∀ (pins : List (Addr × Obj)) (s : Shared) (σ : St) (H : Hp) (D : Ends), Inv X pins σ H s → t D σ H → wpAny (model X.prog X.w) X.A (exec st X.env) (SP X pins D) X.xe s
def PSs (X : Cx) (st : List Stmt) (t : TS) : Prop :=
  ∀ (pins : List (Addr × Obj)) (s : Shared) (σ : St) (H : Hp) (D : Ends), Inv X pins σ H s → t D σ H → wpAny (model X.prog X.w) X.A (execs st X.env) (SP X pins D) X.xe s
/-- weaken the end -/
theorem thn {α : Type} {t : Sem α} {Q Q' : α → Shared → Prop} {M : Model} {A : Around} {E : Value → Shared → Prop} {s : Shared} (h : wpAny M A t Q E s) (hQ : ∀ a s, Q a s → Q' a s) : wpAny M A t Q' E s := wpAny_mono h hQ fun _ _ x => x
end L2

namespace L2
open PySem PySem.Spec PyProof.Rows
section
variable {X : Cx}

/-- two expressions in a row -/
theorem bin {a b : Expr} {ta tb : TE} (ha : PE X a ta) (hb : PE X b tb) {pins : List (Addr × Obj)} {s : Shared} {σ : St} {H : Hp} {R : V → V → Hp → Prop} (I : Inv X pins σ H s) (h : ta σ H fun x H1 => tb σ H1 fun y H2 => R x y H2)
    {α : Type} {Q : α → Shared → Prop} {f : Value → Value → Sem α}
    (hf : ∀ v u s2 x y H2, Inv X pins σ H2 s2 → RelV x v → RelV y u → R x y H2 → wpAny (model X.prog X.w) X.A (f v u) Q X.xe s2) :
    wpAny (model X.prog X.w) X.A (eval a X.env) (fun v s₁ => wpAny (model X.prog X.w) X.A (eval b X.env) (fun u s₂ => wpAny (model X.prog X.w) X.A (f v u) Q X.xe s₂) X.xe s₁) X.xe s := by
  refine thn (ha pins s σ H _ I h) fun v s1 ⟨x, H1, I1, r1, q1⟩ => ?_
  refine thn (hb pins s1 σ H1 _ I1 q1) fun u s2 ⟨y, H2, I2, r2, q2⟩ => ?_
  exact hf v u s2 x y H2 I2 r1 r2 q2

/-! ### names and constants -/
def tVar (i : Nat) : TE := fun σ H Q => ∃ v, σ[i]? = some (some v) ∧ Q v H
def tC (v : V) : TE := fun _ H Q => Q v H
theorem pe_var {i : Nat} {x : Str} {pos : Pos} (hN : X.N[i]? = some x) (hv : Vis X.env.scope x) (hd : (x == ("__debug__" : Str)) = false := by decide) (hcd : (x == ("__classdict__" : Str)) = false := by decide) : PE X (.Name x pos) (tVar i) := by
  intro pins s σ H Q I h
  obtain ⟨v, e, h⟩ := h
  obtain ⟨m, hn, hl⟩ := I.loc
  obtain ⟨u, r, l⟩ := hl i x v hN e hv
  have fin : EP X pins σ Q u s := ⟨v, H, I, r, h⟩
  rcases l with ⟨hk, hm⟩ | ⟨hk, c, hc, hcell⟩
  · exact wpAny_Name (wpAny_loadName_local I.ok.kind hk hn hm fin) hd
  · rcases hk with hk | hk
    · exact wpAny_Name (wpAny_loadName_cell I.ok.kind hk hc hcell fin) hd
    · exact wpAny_Name (wpAny_loadName_free I.ok.kind hk hc hcell fin hcd) hd
theorem pe_int {i j pos} : PE X (.Constant (.int i) j pos) (tC (.int i)) := fun _ _ _ H _ I h => wpAny_Constant_int ⟨.int i, H, I.tok _, ⟨_, rfl⟩, h⟩
theorem pe_bl {b j pos} : PE X (.Constant (.bool b) j pos) (tC (.bl b)) := fun _ _ _ H _ I h => Constant_bool ⟨.bl b, H, I, rfl, h⟩
theorem pe_non {j pos} : PE X (.Constant .none j pos) (tC .non) := fun _ _ _ H _ I h => Constant_none ⟨.non, H, I, rfl, h⟩
theorem pe_str {x j pos} : PE X (.Constant (.str x) j pos) (tC (.str x)) := fun _ _ _ H _ I h => Calls.Constant_str ⟨.str x, H, I.tok _, ⟨_, rfl⟩, h⟩

/-- a global name of the def -/
def Gl (X : Cx) (x : Str) : Prop := X.env.kindOf x = some .globalImplicit
theorem ld_glob {E : Value → Shared → Prop} {pins : List (Addr × Obj)} {s : Shared} {σ : St} {H : Hp} {x : Str} {u : Value} {pos : Pos} {Q : Value → Shared → Prop} (I : Inv X pins σ H s) (hg : Gl X x) (hm : X.mg x = some u) (h : Q u s)
    (hd : (x == ("__debug__" : Str)) = false := by decide) : wpAny (model X.prog X.w) X.A (eval (.Name x pos) X.env) Q E s :=
  Calls.Name_function_global I.ok.kind hg (Calls.loadGlobal_global (by rw [I.ok.glob]; exact I.mod.glob.keeps I.bk) hm h) hd
theorem ld_blt {E : Value → Shared → Prop} {pins : List (Addr × Obj)} {s : Shared} {σ : St} {H : Hp} {x : Str} {u : Value} {pos : Pos} {Q : Value → Shared → Prop} (I : Inv X pins σ H s) (hg : Gl X x) (hm : X.mg x = none) (hv : bootBuiltins x = some u) (h : Q u s)
    (hn : x ≠ "__name__" := by decide) (hd : (x == ("__debug__" : Str)) = false := by decide) : wpAny (model X.prog X.w) X.A (eval (.Name x pos) X.env) Q E s := by
  obtain ⟨mb, h1, h2⟩ := I.mod.blt
  exact Calls.Name_function_global I.ok.kind hg (Calls.loadGlobal_builtin (by rw [I.ok.glob]; exact I.mod.glob.keeps I.bk) hm (by rw [I.ok.blt]; exact h1.keeps I.bk) ((h2 x hn).trans hv) h) hd
/-- a module's constant, a class, a function, as a value -/
theorem pe_glob {x : Str} {v : V} {u : Value} {pos : Pos} (hg : Gl X x) (hm : X.mg x = some u) (r : RelV v u) (hd : (x == ("__debug__" : Str)) = false := by decide) : PE X (.Name x pos) (tC v) :=
  fun _ _ _ H _ I h => ld_glob I hg hm ⟨v, H, I, r, h⟩ hd
theorem pe_bltn {x : Str} {v : V} {u : Value} {pos : Pos} (hg : Gl X x) (hm : X.mg x = none) (hv : bootBuiltins x = some u) (r : RelV v u) (hn : x ≠ "__name__" := by decide) (hd : (x == ("__debug__" : Str)) = false := by decide) : PE X (.Name x pos) (tC v) :=
  fun _ _ _ H _ I h => ld_blt I hg hm hv ⟨v, H, I, r, h⟩ hn hd

/-! ### arithmetic -/
/-- two ints -/
def t2I (ta tb : TE) (k : Int → Int → Hp → Prop) : St → Hp → Prop := fun σ H => ta σ H fun x H1 => tb σ H1 fun y H2 => ∃ i j, x = .int i ∧ y = .int j ∧ k i j H2
def tAdd (ta tb : TE) : TE := fun σ H Q => t2I ta tb (fun i j H2 => Q (.int (i + j)) H2) σ H
def tSub (ta tb : TE) : TE := fun σ H Q => t2I ta tb (fun i j H2 => Q (.int (i - j)) H2) σ H
/-- the left factor below 2^64 -/
def tMul (ta tb : TE) : TE := fun σ H Q => t2I ta tb (fun i j H2 => (-(2 ^ 64) < i ∧ i < 2 ^ 64) ∧ Q (.int (i * j)) H2) σ H
variable {a b : Expr} {ta tb : TE} {pos : Pos}
theorem pe_add (ha : PE X a ta) (hb : PE X b tb) : PE X (.BinOp a .Add b pos) (tAdd ta tb) := by
  intro pins s σ H Q I h
  refine wpAny_BinOp (bin ha hb I h fun v u s2 x y H2 I2 rx ry q => ?_)
  obtain ⟨i, j, rfl, rfl, q⟩ := q
  obtain ⟨t, rfl⟩ := rx
  obtain ⟨t', rfl⟩ := ry
  exact add_int ⟨.int _, H2, I2.tok _, ⟨_, rfl⟩, q⟩
theorem pe_sub (ha : PE X a ta) (hb : PE X b tb) : PE X (.BinOp a .Sub b pos) (tSub ta tb) := by
  intro pins s σ H Q I h
  refine wpAny_BinOp (bin ha hb I h fun v u s2 x y H2 I2 rx ry q => ?_)
  obtain ⟨i, j, rfl, rfl, q⟩ := q
  obtain ⟨t, rfl⟩ := rx
  obtain ⟨t', rfl⟩ := ry
  exact sub_int ⟨.int _, H2, I2.tok _, ⟨_, rfl⟩, q⟩
theorem pe_mul (ha : PE X a ta) (hb : PE X b tb) : PE X (.BinOp a .Mult b pos) (tMul ta tb) := by
  intro pins s σ H Q I h
  refine wpAny_BinOp (bin ha hb I h fun v u s2 x y H2 I2 rx ry q => ?_)
  obtain ⟨i, j, rfl, rfl, ⟨q1, q2⟩, q⟩ := q
  obtain ⟨t, rfl⟩ := rx
  obtain ⟨t', rfl⟩ := ry
  exact mul_int ⟨.int _, H2, I2.tok _, ⟨_, rfl⟩, q⟩ (.of_left (intBits_le_64 q1 q2))

/-! ### comparisons -/
def PC (X : Cx) (op : CmpOp) (a b : Expr) (t : TE) : Prop :=
  ∀ (pins : List (Addr × Obj)) (s : Shared) (σ : St) (H : Hp) (Q : VK), Inv X pins σ H s → t σ H Q →
    wpAny (model X.prog X.w) X.A (eval a X.env) (fun v s₁ => wpAny (model X.prog X.w) X.A (eval b X.env) (fun u s₂ => wpAny (model X.prog X.w) X.A (compareOp op v u) (EP X pins σ Q) X.xe s₂) X.xe s₁) X.xe s
theorem nobehind (b : Expr) {op : CmpOp} (h : op ≠ .In) (h2 : op ≠ .NotIn) : behindInMarks op b = false := by
  have e1 : (op == CmpOp.In) = false := by cases op <;> first | rfl | exact absurd rfl h
  have e2 : (op == CmpOp.NotIn) = false := by cases op <;> first | rfl | exact absurd rfl h2
  cases b <;> simp [behindInMarks, e1, e2]
def tCmp (p : Int → Int → Bool) (ta tb : TE) : TE := fun σ H Q => t2I ta tb (fun i j H2 => Q (.bl (p i j)) H2) σ H
abbrev tLt : TE → TE → TE := tCmp fun i j => decide (i < j)
abbrev tLe : TE → TE → TE := tCmp fun i j => decide (i ≤ j)
abbrev tGt : TE → TE → TE := tCmp fun i j => decide (j < i)
abbrev tGe : TE → TE → TE := tCmp fun i j => decide (j ≤ i)
abbrev tEqI : TE → TE → TE := tCmp fun i j => decide (i = j)
abbrev tNeI : TE → TE → TE := tCmp fun i j => !decide (i = j)
/-- a comparison of two ints, by its rule -/
theorem pc_int {op : CmpOp} {p : Int → Int → Bool} (ha : PE X a ta) (hb : PE X b tb)
    (rule : ∀ (i j : Int) (t u : Tok) (Q : Value → Shared → Prop) (s : Shared), Q (.bool (p i j)) s → wpAny (model X.prog X.w) X.A (compareOp op (.int i t) (.int j u)) Q X.xe s) : PC X op a b (tCmp p ta tb) := by
  intro pins s σ H Q I h
  refine bin ha hb I h fun v u s2 x y H2 I2 rx ry q => ?_
  obtain ⟨i, j, rfl, rfl, q⟩ := q
  obtain ⟨t, rfl⟩ := rx
  obtain ⟨t', rfl⟩ := ry
  exact rule i j t t' _ s2 ⟨.bl _, H2, I2, rfl, q⟩
theorem pc_lt (ha : PE X a ta) (hb : PE X b tb) : PC X .Lt a b (tLt ta tb) := pc_int ha hb fun _ _ _ _ _ _ h => lt_int h
theorem pc_le (ha : PE X a ta) (hb : PE X b tb) : PC X .LtE a b (tLe ta tb) := pc_int ha hb fun _ _ _ _ _ _ h => le_int h
theorem pc_gt (ha : PE X a ta) (hb : PE X b tb) : PC X .Gt a b (tGt ta tb) := pc_int ha hb fun _ _ _ _ _ _ h => gt_int h
theorem pc_ge (ha : PE X a ta) (hb : PE X b tb) : PC X .GtE a b (tGe ta tb) := pc_int ha hb fun _ _ _ _ _ _ h => ge_int h
theorem pc_eqI (ha : PE X a ta) (hb : PE X b tb) : PC X .Eq a b (tEqI ta tb) := pc_int ha hb fun _ _ _ _ _ _ h => eq_int (by rw [Bool.beq_eq_decide_eq]; exact h)
theorem pc_neI (ha : PE X a ta) (hb : PE X b tb) : PC X .NotEq a b (tNeI ta tb) := pc_int ha hb fun _ _ _ _ _ _ h => ne_int (by rw [bne, Bool.beq_eq_decide_eq]; exact h)
/-- is None -/
def tIsN (ta : TE) : TE := fun σ H Q => ta σ H fun x H1 => Q (.bl (decide (x = .non))) H1
def tNotN (ta : TE) : TE := fun σ H Q => ta σ H fun x H1 => Q (.bl (!decide (x = .non))) H1
theorem RelV.none_iff {x : V} {v : Value} (r : RelV x v) : (v == Value.none) = decide (x = .non) := by
  cases x with
  | non => cases r; rfl
  | bl _ => cases r; rfl
  | int _ => obtain ⟨t, rfl⟩ := r; rfl
  | str _ => obtain ⟨t, rfl⟩ := r; rfl
  | byt _ => obtain ⟨t, rfl⟩ := r; rfl
  | flt _ => obtain ⟨t, rfl⟩ := r; rfl
  | ref _ => cases r; rfl
  | ty _ => cases r; rfl
theorem pc_isN {j pos'} (ha : PE X a ta) : PC X .Is a (.Constant .none j pos') (tIsN ta) := by
  intro pins s σ H Q I h
  refine thn (ha pins s σ H _ I h) fun v s1 ⟨x, H1, I1, r1, q1⟩ => ?_
  exact Constant_none (is_none_gen ⟨.bl _, H1, I1, by rw [r1.none_iff]; rfl, q1⟩)
theorem pc_notN {j pos'} (ha : PE X a ta) : PC X .IsNot a (.Constant .none j pos') (tNotN ta) := by
  intro pins s σ H Q I h
  refine thn (ha pins s σ H _ I h) fun v s1 ⟨x, H1, I1, r1, q1⟩ => ?_
  exact Constant_none (isnot_none_gen ⟨.bl _, H1, I1, by rw [r1.none_iff]; rfl, q1⟩)
/-- a comparison as a value, as a test -/
def tB (t : TE) : TT := fun σ H Q => t σ H fun x H1 => ∃ c, x = .bl c ∧ Q c H1
theorem pe_cmp {op : CmpOp} {t : TE} (h : PC X op a b t) (h1 : behindInMarks op b = false := by first | exact nobehind _ (by decide) (by decide) | rfl) : PE X (.Compare a [op] [b] pos) t := fun pins s σ H Q I hw => wpAny_Compare1 (h pins s σ H Q I hw) h1
theorem pt_cmp {op : CmpOp} {t : TE} (h : PC X op a b t) (h1 : behindInMarks op b = false := by first | exact nobehind _ (by decide) (by decide) | rfl) : PT X (.Compare a [op] [b] pos) (tB t) := by
  intro pins s σ H Q I hw
  refine wpAny_isTrue_Compare1 (thn (h pins s σ H _ I hw) fun v s1 h1 => thn h1 fun u s2 h2 => thn h2 fun c s3 ⟨x, H1, I1, r1, q1⟩ => ?_) h1
  obtain ⟨d, rfl, q⟩ := q1
  cases r1
  exact wpAny_truthy_bool ⟨H1, I1, q⟩
/-- an expression whose value is a bool, as a test -/
theorem pt_val {e : Expr} {t : TE} (h : PE X e t) (he : ∀ whole, isTrue e X.env whole = (do let v ← whole; standAt e.pos; holding [v] (truthy v)) := by intro _; rfl) : PT X e (tB t) := by
  intro pins s σ H Q I hw
  refine isTrue_plain (thn (h pins s σ H _ I hw) fun v s1 ⟨x, H1, I1, r1, q1⟩ => ?_) (he _)
  obtain ⟨d, rfl, q⟩ := q1
  cases r1
  exact wpAny_truthy_bool ⟨H1, I1, q⟩

/-! ### and, or, not -/
variable {tA tB' : TT} {rest : List Expr}
def tAnd (t u : TT) : TT := fun σ H Q => t σ H fun c H1 => if c = true then u σ H1 Q else Q false H1
def tOr (t u : TT) : TT := fun σ H Q => t σ H fun c H1 => if c = true then Q true H1 else u σ H1 Q
def tNot (t : TT) : TT := fun σ H Q => t σ H fun c H1 => Q (!c) H1
theorem pw_and1 (ha : PT X a tA) : PW X (.BoolOp .And [a] pos) tA := by
  intro wh pins s σ H Q I h
  refine isTrue_and (thn (ha pins s σ H Q I h) fun c s1 e => ?_)
  cases c with
  | true => exact isTrue_and_nil e
  | false => exact e
theorem pw_or1 (ha : PT X a tA) : PW X (.BoolOp .Or [a] pos) tA := by
  intro wh pins s σ H Q I h
  refine isTrue_or (thn (ha pins s σ H Q I h) fun c s1 e => ?_)
  cases c with
  | false => exact isTrue_or_nil e
  | true => exact e
theorem pw_and (ha : PT X a tA) (hb : PW X (.BoolOp .And (b :: rest) pos) tB') : PW X (.BoolOp .And (a :: b :: rest) pos) (tAnd tA tB') := by
  intro wh pins s σ H Q I h
  refine isTrue_and (thn (ha pins s σ H _ I h) fun c s1 ⟨H1, I1, q1⟩ => ?_)
  cases c with
  | true => exact hb wh pins s1 σ H1 Q I1 q1
  | false => exact ⟨H1, I1, q1⟩
theorem pw_or (ha : PT X a tA) (hb : PW X (.BoolOp .Or (b :: rest) pos) tB') : PW X (.BoolOp .Or (a :: b :: rest) pos) (tOr tA tB') := by
  intro wh pins s σ H Q I h
  refine isTrue_or (thn (ha pins s σ H _ I h) fun c s1 ⟨H1, I1, q1⟩ => ?_)
  cases c with
  | true => exact ⟨H1, I1, q1⟩
  | false => exact hb wh pins s1 σ H1 Q I1 q1
theorem pt_not (ha : PT X a tA) : PT X (.UnaryOp .Not a pos) (tNot tA) := by
  intro pins s σ H Q I h
  exact isTrue_not (ha pins s σ H (fun c H1 => Q (!c) H1) I h)
/-- .. as values (bools) -/
def tAndV (ta tb : TE) : TE := fun σ H Q => ta σ H fun x H1 => ∃ c, x = .bl c ∧ if c = true then tb σ H1 Q else Q (.bl false) H1
def tOrV (ta tb : TE) : TE := fun σ H Q => ta σ H fun x H1 => ∃ c, x = .bl c ∧ if c = true then Q (.bl true) H1 else tb σ H1 Q
def tNotV (ta : TE) : TE := fun σ H Q => ta σ H fun x H1 => ∃ c, x = .bl c ∧ Q (.bl (!c)) H1
theorem pe_one {op} {t : TE} (h : PE X a t) : PE X (.BoolOp op [a] pos) t := fun pins s σ H Q I hw => BoolOp_one (h pins s σ H Q I hw)
theorem pe_and (ha : PE X a ta) (hb : PE X (.BoolOp .And (b :: rest) pos) tb) : PE X (.BoolOp .And (a :: b :: rest) pos) (tAndV ta tb) := by
  intro pins s σ H Q I h
  refine BoolOp_and (thn (ha pins s σ H _ I h) fun v s1 ⟨x, H1, I1, r1, q1⟩ => ?_)
  obtain ⟨c, rfl, q1⟩ := q1
  cases r1
  refine wpAny_truthy_bool ?_
  cases c with
  | true => exact hb pins s1 σ H1 Q I1 q1
  | false => exact ⟨.bl false, H1, I1, rfl, q1⟩
theorem pe_or (ha : PE X a ta) (hb : PE X (.BoolOp .Or (b :: rest) pos) tb) : PE X (.BoolOp .Or (a :: b :: rest) pos) (tOrV ta tb) := by
  intro pins s σ H Q I h
  refine BoolOp_or (thn (ha pins s σ H _ I h) fun v s1 ⟨x, H1, I1, r1, q1⟩ => ?_)
  obtain ⟨c, rfl, q1⟩ := q1
  cases r1
  refine wpAny_truthy_bool ?_
  cases c with
  | false => exact hb pins s1 σ H1 Q I1 q1
  | true => exact ⟨.bl true, H1, I1, rfl, q1⟩
theorem pe_not (ha : PE X a ta) : PE X (.UnaryOp .Not a pos) (tNotV ta) := by
  intro pins s σ H Q I h
  refine UnaryOp_ (thn (ha pins s σ H _ I h) fun v s1 ⟨x, H1, I1, r1, q1⟩ => ?_)
  obtain ⟨c, rfl, q1⟩ := q1
  cases r1
  exact not_of (wpAny_truthy_bool ⟨.bl (!c), H1, I1, rfl, q1⟩)
/-- a if t else b -/
def tIf (t : TT) (ta tb : TE) : TE := fun σ H Q => t σ H fun c H1 => if c = true then ta σ H1 Q else tb σ H1 Q
theorem pe_ifExp {c : Expr} (hc : PT X c tA) (ha : PE X a ta) (hb : PE X b tb) : PE X (.IfExp c a b pos) (tIf tA ta tb) := by
  intro pins s σ H Q I h
  refine wpAny_IfExp (thn (hc pins s σ H _ I h) fun d s1 ⟨H1, I1, q1⟩ => ?_)
  cases d with
  | true => exact ha pins s1 σ H1 Q I1 q1
  | false => exact hb pins s1 σ H1 Q I1 q1
end
end L2

namespace L2
open PySem PySem.Spec PyProof.Rows

/-! ### a list, a tuple that is read: tracked, frozen, or an object of the module -/
def SqL (K : PySem.W.Frag) (H : Hp) (a : Addr) (xs : List V) : Prop :=
  Rd H a (.lst xs) ∨
    ∃ (o : Obj) (its : Array Value) (n : Nat), K.lookup a = some o ∧ o.cls = .type "list" ∧ o.dict = none ∧ o.data = .seq its n ∧ its.size ≤ sizeLine ∧ Vals xs its.toList
def SqT (K : PySem.W.Frag) (H : Hp) (a : Addr) (xs : List V) : Prop :=
  Rd H a (.tup xs) ∨
    ∃ (o : Obj) (its : Array Value) (n : Nat), K.lookup a = some o ∧ o.cls = .type "tuple" ∧ o.data = .seq its n ∧ its.size ≤ sizeLine ∧ Vals xs its.toList
def absV : Value → Option V
  | .none => some .non
  | .bool b => some (.bl b)
  | .int i _ => some (.int i)
  | .str x _ => some (.str x)
  | .bytes b _ => some (.byt b)
  | .float b _ => some (.flt b)
  | .ref a => some (.ref a)
  | .type n => some (.ty n)
  | _ => none
theorem RelV.abs {x : V} {u : Value} (r : RelV x u) : absV u = some x := by
  cases x with
  | non => cases r; rfl
  | bl _ => cases r; rfl
  | int _ => obtain ⟨t, rfl⟩ := r; rfl
  | str _ => obtain ⟨t, rfl⟩ := r; rfl
  | byt _ => obtain ⟨t, rfl⟩ := r; rfl
  | flt _ => obtain ⟨t, rfl⟩ := r; rfl
  | ref _ => cases r; rfl
  | ty _ => cases r; rfl
theorem RelV.inj {x y : V} {u : Value} (r : RelV x u) (q : RelV y u) : x = y := Option.some.inj (r.abs.symm.trans q.abs)
theorem Vals.inj : ∀ {xs ys : List V} {us : List Value}, Vals xs us → Vals ys us → xs = ys
  | _, _, _, .nil, .nil => rfl
  | _, _, _, .cons r t, .cons r' t' => by rw [r.inj r', Vals.inj t t']
section
variable {X : Cx} {pins : List (Addr × Obj)} {σ : St} {H : Hp} {s : Shared} {a : Addr} {xs ys : List V}
theorem SqL.of {K : PySem.W.Frag} (h : H a = some (.lst xs)) : SqL K H a xs := .inl (.inl h)
theorem SqT.of {K : PySem.W.Frag} (h : H a = some (.tup xs)) : SqT K H a xs := .inl (.inl h)
theorem Inv.list (I : Inv X pins σ H s) (h : SqL X.K H a xs) : ∃ its : List Value, Vals xs its ∧ PlainL s.heap a its.toArray ∧ xs.length ≤ sizeLine := by
  rcases h with h | ⟨o, its, n, hk, hc, hd, hs, hz, r⟩
  · obtain ⟨z, its, n, r, e⟩ := h.ok I.hok
    exact ⟨its, r, ⟨_, n, e, rfl, rfl, rfl⟩, z⟩
  · refine ⟨its.toList, r, ⟨o, n, I.kIn a o hk, hc, hd, by simpa using hs⟩, ?_⟩
    have e := r.length
    simp only [Array.length_toList] at e
    omega
theorem Inv.tuple (I : Inv X pins σ H s) (h : SqT X.K H a xs) : ∃ its : List Value, Vals xs its ∧ IsTup s.heap a its.toArray ∧ xs.length ≤ sizeLine := by
  rcases h with h | ⟨o, its, n, hk, hc, hs, hz, r⟩
  · obtain ⟨z, its, r, p⟩ := h.ok I.hok
    exact ⟨its, r, p, z⟩
  · refine ⟨its.toList, r, ⟨o, I.kIn a o hk, hc, n, by simpa using hs⟩, ?_⟩
    have e := r.length
    simp only [Array.length_toList] at e
    omega
theorem Inv.list_inj (I : Inv X pins σ H s) (h : SqL X.K H a xs) (h' : SqL X.K H a ys) : xs = ys := by
  obtain ⟨its, r, ⟨o, n, e, _, _, d⟩, _⟩ := I.list h
  obtain ⟨its', r', ⟨o', n', e', _, _, d'⟩, _⟩ := I.list h'
  rw [e] at e'; cases e'
  rw [d] at d'
  injection d' with d1 _
  have : its = its' := by simpa using congrArg Array.toList d1
  subst this
  exact r.inj r'
theorem Inv.tuple_inj (I : Inv X pins σ H s) (h : SqT X.K H a xs) (h' : SqT X.K H a ys) : xs = ys := by
  obtain ⟨its, r, ⟨o, e, _, n, d⟩, _⟩ := I.tuple h
  obtain ⟨its', r', ⟨o', e', _, n', d'⟩, _⟩ := I.tuple h'
  rw [e] at e'; cases e'
  rw [d] at d'
  injection d' with d1 _
  have : its = its' := by simpa using congrArg Array.toList d1
  subst this
  exact r.inj r'
end

/-! ### another wish about exceptions -/
abbrev Cx.wish (X : Cx) (E : Value → Shared → Prop) : Cx := { X with xe := E }
/-- no exception leaves -/
abbrev Cx.nox (X : Cx) : Cx := X.wish fun _ _ => False
theorem Cx.Ok.wish {X : Cx} (ok : X.Ok) (E : Value → Shared → Prop) : (X.wish E).Ok :=
  ⟨ok.mod, ok.kind, ok.glob, ok.blt, ok.above, ok.inj, ok.has, ok.cab, ok.hd, ok.frames, ok.stk, ok.exf, ok.bs, ok.bsz, ok.noex, ok.exfs, ok.funs, ok.frf⟩
theorem Cx.Ok.unwish {X : Cx} {E : Value → Shared → Prop} (ok : (X.wish E).Ok) : X.Ok :=
  ⟨ok.mod, ok.kind, ok.glob, ok.blt, ok.above, ok.inj, ok.has, ok.cab, ok.hd, ok.frames, ok.stk, ok.exf, ok.bs, ok.bsz, ok.noex, ok.exfs, ok.funs, ok.frf⟩
section
variable {X : Cx} {pins : List (Addr × Obj)} {σ : St} {H : Hp} {s : Shared} {E : Value → Shared → Prop}
theorem Inv.wish (I : Inv X pins σ H s) (E : Value → Shared → Prop) : Inv (X.wish E) pins σ H s := ⟨I.ok.wish E, I.os, I.bare, I.base, I.loc, I.cell, I.free, I.freeC, I.pin, I.hok, I.len⟩
theorem Inv.unwish (I : Inv (X.wish E) pins σ H s) : Inv X pins σ H s := ⟨I.ok.unwish, I.os, I.bare, I.base, I.loc, I.cell, I.free, I.freeC, I.pin, I.hok, I.len⟩
theorem SP.unwish {D : Ends} {f : Flow} {s' : Shared} (h : SP (X.wish E) pins D f s') : SP X pins D f s' := by
  cases f with
  | next => obtain ⟨σ', H', I, q⟩ := h; exact ⟨σ', H', I.unwish, q⟩
  | brk => obtain ⟨σ', H', I, q⟩ := h; exact ⟨σ', H', I.unwish, q⟩
  | cont => obtain ⟨σ', H', I, q⟩ := h; exact ⟨σ', H', I.unwish, q⟩
  | ret u => obtain ⟨v, σ', H', I, r, q⟩ := h; exact ⟨v, σ', H', I.unwish, r, q⟩
theorem PE.nox {e : Expr} {t : TE} (h : PE X.nox e t) : PE X e t := fun pins s σ H Q I hw =>
  wpAny_mono (h pins s σ H Q (I.wish _) hw) (fun _ _ ⟨v, H', I', r, q⟩ => ⟨v, H', I'.unwish, r, q⟩) fun _ _ z => False.elim z
theorem PT.nox {e : Expr} {t : TT} (h : PT X.nox e t) : PT X e t := fun pins s σ H Q I hw =>
  wpAny_mono (h pins s σ H Q (I.wish _) hw) (fun _ _ ⟨H', I', q⟩ => ⟨H', I'.unwish, q⟩) fun _ _ z => False.elim z
theorem PSs.nox {st : List Stmt} {t : TS} (h : PSs X.nox st t) : PSs X st t := fun pins s σ H D I hw =>
  wpAny_mono (h pins s σ H D (I.wish _) hw) (fun _ _ q => q.unwish) fun _ _ z => False.elim z
end

/-! ### blocks and small statements -/
section
variable {X : Cx} {st : Stmt} {rest : List Stmt} {t u : TS} {e : Expr} {te : TE} {pos : Pos}
def tNext : TS := fun D σ H => D.nx σ H
def tSeq (t u : TS) : TS := fun D σ H => t { D with nx := u D } σ H
theorem pss_nil : PSs X [] tNext := fun _ _ σ H _ I h => wpAny_execs_nil ⟨σ, H, I, h⟩
theorem pss_cons (h1 : PS X st t) (h2 : PSs X rest u) : PSs X (st :: rest) (tSeq t u) := by
  intro pins s σ H D I h
  refine wpAny_execs_cons (thn (h1 pins s σ H { D with nx := u D } I h) fun f s1 q => ?_)
  cases f with
  | next =>
    obtain ⟨σ', H', I', q⟩ := q
    exact h2 pins s1 σ' H' D I' q
  | ret v => exact q
  | brk => exact q
  | cont => exact q
theorem pss_one (h1 : PS X st t) : PSs X [st] t := by
  intro pins s σ H D I h
  refine wpAny_execs_cons (thn (h1 pins s σ H D I h) fun f s1 q => ?_)
  cases f with
  | next => exact wpAny_execs_nil q
  | ret v => exact q
  | brk => exact q
  | cont => exact q
def tBreak : TS := fun D σ H => D.bk σ H
def tCont : TS := fun D σ H => D.ct σ H
theorem ps_pass : PS X (.Pass pos) tNext := fun _ _ σ H _ I h => wpAny_Pass ⟨σ, H, I, h⟩
theorem ps_break : PS X (.Break pos) tBreak := fun _ _ σ H _ I h => wpAny_Break ⟨σ, H, I, h⟩
theorem ps_continue : PS X (.Continue pos) tCont := fun _ _ σ H _ I h => wpAny_Continue ⟨σ, H, I, h⟩
/-- in a def's body nothing is shown -/
theorem Inv.quiet {pins : List (Addr × Obj)} {σ : St} {H : Hp} {s : Shared} (I : Inv X pins σ H s) : interactive X.env = false := by simp [interactive, I.ok.kind]
/-- a docstring -/
theorem ps_doc {x j pos pos'} : PS X (.Expr (.Constant (.str x) j pos) pos') tNext := fun _ s σ H _ I h => wpAny_Expr (Calls.Constant_str (show SP X _ _ .next { s with toks := s.toks + 1 } from ⟨σ, H, I.tok _, h⟩)) I.quiet
/-- an expression whose value is dropped -/
def tDrop (te : TE) : TS := fun D σ H => te σ H fun _ H1 => D.nx σ H1
theorem ps_expr (he : PE X e te) (hs : swapsWith e none pos.line X.env = pure false := by rfl) : PS X (.Expr e pos) (tDrop te) := by
  intro pins s σ H D I h
  exact wpAny_Expr_any (thn (he pins s σ H _ I h) fun v s1 ⟨x, H1, I1, r1, q1⟩ => ⟨σ, H1, I1, q1⟩) I.quiet hs
def tRet (te : TE) : TS := fun D σ H => te σ H D.rt
theorem ps_ret (he : PE X e te) : PS X (.Return (some e) pos) (tRet te) := by
  intro pins s σ H D I h
  exact wpAny_Return_some (thn (he pins s σ H _ I h) fun v s1 ⟨x, H1, I1, r1, q1⟩ => ⟨x, σ, H1, I1, r1, q1⟩)
def tRetN : TS := fun D _ H => D.rt .non H
theorem ps_retN : PS X (.Return none pos) tRetN := fun _ _ σ H _ I h => wpAny_Return_none ⟨.non, σ, H, I, rfl, h⟩
def tIfS (c : TT) (t u : TS) : TS := fun D σ H => c σ H fun b H1 => if b = true then t D σ H1 else u D σ H1
theorem ps_if {c : Expr} {a b : List Stmt} {tc : TT} (hc : PT X c tc) (ha : PSs X a t) (hb : PSs X b u) : PS X (.If c a b pos) (tIfS tc t u) := by
  intro pins s σ H D I h
  refine wpAny_If (thn (hc pins s σ H _ I h) fun d s1 ⟨H1, I1, q1⟩ => ?_)
  cases d with
  | true => exact ha pins s1 σ H1 D I1 q1
  | false => exact hb pins s1 σ H1 D I1 q1
/-- code that the proof never comes to -/
def tNever : TS := fun _ _ _ => False
theorem ps_never : PS X st tNever := fun _ _ _ _ _ _ h => h.elim
theorem pss_never {sts : List Stmt} : PSs X sts tNever := fun _ _ _ _ _ _ h => h.elim
end

/-! ### targets -/
abbrev TG := V → St → Hp → (St → Hp → Prop) → Prop
abbrev TGs := List V → St → Hp → (St → Hp → Prop) → Prop
def PG (X : Cx) (target : Expr) (t : TG) : Prop :=
  ∀ (pins : List (Addr × Obj)) (s : Shared) (σ : St) (H : Hp) (v : V) (u : Value) (Q : St → Hp → Prop), Inv X pins σ H s → RelV v u → t v σ H Q →
    wpAny (model X.prog X.w) X.A (assign target X.env u) (fun _ s' => ∃ σ' H', Inv X pins σ' H' s' ∧ Q σ' H') X.xe s
/-- several targets, one after another -/
def PGs (X : Cx) (ts : List Expr) (t : TGs) : Prop :=
  ∀ (pins : List (Addr × Obj)) (s : Shared) (σ : St) (H : Hp) (vs : List V) (us : List Value) (Q : St → Hp → Prop), Inv X pins σ H s → Vals vs us → t vs σ H Q →
    wpAny (model X.prog X.w) X.A (assignInOrder ((assignEach ts X.env).map (·.2)) us) (fun _ s' => ∃ σ' H', Inv X pins σ' H' s' ∧ Q σ' H') X.xe s
/-- o[i] = v, by values -/
abbrev TSet := V → V → V → Hp → (Hp → Prop) → Prop
def PSet (X : Cx) (t : TSet) : Prop :=
  ∀ (pins : List (Addr × Obj)) (s : Shared) (σ : St) (H : Hp) (o i v : V) (ov iv u : Value) (Q : Hp → Prop), Inv X pins σ H s → RelV o ov → RelV i iv → RelV v u → t o i v H Q →
    wpAny (model X.prog X.w) X.A (setItem ov iv u) (fun _ s' => ∃ H', Inv X pins σ H' s' ∧ Q H') X.xe s
/-- a op= b, by values -/
abbrev TIp := V → V → Hp → VK → Prop
def PIp (X : Cx) (op : Operator) (t : TIp) : Prop :=
  ∀ (pins : List (Addr × Obj)) (s : Shared) (σ : St) (H : Hp) (x y : V) (v u : Value) (Q : VK), Inv X pins σ H s → RelV x v → RelV y u → t x y H Q →
    wpAny (model X.prog X.w) X.A (inplaceOp op v u) (EP X pins σ Q) X.xe s
section
variable {X : Cx} {pos : Pos}
def gName (i : Nat) : TG := fun v σ H Q => Q (σ.set i (some v)) H
theorem pg_name {i : Nat} {x : Str} (hN : X.N.Nodup) (hi : X.N[i]? = some x) (hx : Loc X.env.scope x) (hf : X.fn x = true ∨ X.env.scope.names.lookup x = some .local := by first | exact .inl rfl | exact .inr rfl | assumption) : PG X (.Name x pos) (gName i) := by
  intro pins s σ H v u Q I r h
  exact wpAny_assign_Name (store_ok I hN hi hx r (fun s' I' => ⟨_, H, I', h⟩) hf)
def gNil : TGs := fun vs σ H Q => vs = [] ∧ Q σ H
def gCons (t : TG) (u : TGs) : TGs := fun vs σ H Q => ∃ v r, vs = v :: r ∧ t v σ H fun σ' H' => u r σ' H' Q
theorem pgs_nil : PGs X [] gNil := by
  intro pins s σ H vs us Q I r h
  obtain ⟨e, h⟩ := h
  subst e
  cases r
  exact assignInOrder_nil ⟨σ, H, I, h⟩
theorem pgs_cons {e : Expr} {es : List Expr} {t : TG} {u : TGs} (h1 : PG X e t) (h2 : PGs X es u)
    (hs : (assignEach (e :: es) X.env).map (·.2) = assign e X.env :: (assignEach es X.env).map (·.2) := by rfl) : PGs X (e :: es) (gCons t u) := by
  intro pins s σ H vs us Q I r h
  obtain ⟨v, vr, e1, h⟩ := h
  subst e1
  cases r with
  | cons r rr =>
    rw [hs]
    refine assignInOrder_cons (thn (h1 pins s σ H _ _ _ I r h) fun _ s1 ⟨σ1, H1, I1, q1⟩ => ?_)
    exact h2 pins s1 σ1 H1 _ _ Q I1 rr q1
/-- (a, b, ..) = a tuple of that length -/
def gTup (K : PySem.W.Frag) (n : Nat) (t : TGs) : TG := fun v σ H Q => ∃ a xs, v = .ref a ∧ SqT K H a xs ∧ xs.length = n ∧ t xs σ H Q
theorem pg_tup {es : List Expr} {k : Nat} {t : TGs} {n : Nat} (hc : X.calm = true) (h : PGs X es t)
    (hn : (assignEach es X.env).length = n := by rfl) (hst : (assignEach es X.env).findIdx? (·.1) = none := by rfl) : PG X (.Tuple es k pos) (gTup X.K n t) := by
  intro pins s σ H v u Q I r hw
  obtain ⟨a, xs, e1, hq, hl, hw⟩ := hw
  subst e1
  cases r
  obtain ⟨its, rv, ht, hz⟩ := I.tuple hq
  refine assign_Tuple_tuple (I.ok.hd hc) ht (by simp [hn, ← hl, rv.length]) hst fun h' hx => ?_
  have I1 : Inv X pins σ H { s with heap := h' } := I.kept (t' := s.toks) fun b o e => hx b o (Nat.ne_of_lt (Heap.lt_size e)) e
  exact h pins _ σ H xs _ Q I1 (by simpa using rv) hw
/-- o[i] = .. -/
def gSub (to ti : TE) (t : TSet) : TG := fun v σ H Q => to σ H fun o H1 => ti σ H1 fun i H2 => t o i v H2 fun H3 => Q σ H3
theorem pg_sub {o i : Expr} {to ti : TE} {t : TSet} (ho : PE X o to) (hi : PE X i ti) (hs : PSet X t)
    (ha : ∀ v, assign (.Subscript o i pos) X.env v = (do
      let ov ← holding [v] (eval o X.env)
      let iv ← holding [v, ov] (eval i X.env)
      standAt pos
      holding [v, ov, iv] (setItem ov iv v)
      release [v, ov, iv] []) := by intro _; rfl) : PG X (.Subscript o i pos) (gSub to ti t) := by
  intro pins s σ H v u Q I r h
  rw [ha]
  refine wpAny_bind (wpAny_holding (thn (ho pins s σ H _ I h) fun ov s1 ⟨x, H1, I1, r1, q1⟩ => ?_))
  refine wpAny_bind (wpAny_holding (thn (hi pins s1 σ H1 _ I1 q1) fun iv s2 ⟨y, H2, I2, r2, q2⟩ => ?_))
  refine wpAny_bind (wpAny_standAt (wpAny_bind (wpAny_holding (thn (hs pins s2 σ H2 x y v ov iv u _ I2 r1 r2 r q2) fun _ s3 ⟨H3, I3, q3⟩ => ?_))))
  exact wpAny_release ⟨σ, H3, I3, q3⟩
/-- target = value -/
def tAsg (te : TE) (g : TG) : TS := fun D σ H => te σ H fun x H1 => g x σ H1 D.nx
theorem ps_asg {tg e : Expr} {te : TE} {g : TG} (he : PE X e te) (hg : PG X tg g) (hs : swapsWithSole [tg] e pos.line X.env = pure false := by rfl) (hw : swappedStores [tg] e X.env = pure none := by rfl)
    (h1 : (assignEach [tg] X.env).map (·.2) = [assign tg X.env] := by rfl) : PS X (.Assign [tg] e pos) (tAsg te g) := by
  intro pins s σ H D I h
  refine wpAny_Assign_stores (thn (he pins s σ H _ I h) fun v s1 ⟨x, H1, I1, r1, q1⟩ => ?_) hs hw
  rw [h1]
  exact thn (hg pins s1 σ H1 x v _ I1 r1 q1) fun _ s2 q => q
/-- name = value -/
theorem ps_set {i : Nat} {x : Str} {e : Expr} {te : TE} {pos' : Pos} (hN : X.N.Nodup) (hi : X.N[i]? = some x) (hx : Loc X.env.scope x) (he : PE X e te) (hs : swapsWith e (some (.Name x pos')) pos.line X.env = pure false := by rfl) (hf : X.fn x = true ∨ X.env.scope.names.lookup x = some .local := by first | exact .inl rfl | exact .inr rfl | assumption) :
    PS X (.Assign [.Name x pos'] e pos) (tAsg te (gName i)) := by
  intro pins s σ H D I h
  refine wpAny_Assign_Name (thn (he pins s σ H _ I h) fun v s1 ⟨y, H1, I1, r1, q1⟩ => ?_) hs
  exact store_ok I1 hN hi hx r1 (fun s2 I2 => ⟨_, H1, I2, q1⟩) hf
/-- a, b = x, y with plain local names: stored from the right; the pair itself is not tracked (the opening rows as in PyProof/Rows/TupAssign.lean:23) -/
def tPar (i j : Nat) (ta : TA) : TS := fun D σ H => ta σ H fun vs H1 => ∃ v w, vs = [v, w] ∧ D.nx ((σ.set i (some v)).set j (some w)) H1
theorem ps_par {i j : Nat} {x y : Str} {a b : Expr} {ta : TA} {px py pt : Pos} {kt k2 pt2} (hc : X.calm = true) (hN : X.N.Nodup) (hi : X.N[i]? = some x) (hj : X.N[j]? = some y) (hij : i ≠ j)
    (hx : X.env.scope.names.lookup x = some .local) (hy : X.env.scope.names.lookup y = some .local) (ha : PA X [a, b] ta)
    (hw : swappedStores [.Tuple [.Name x px, .Name y py] kt pt] (.Tuple [a, b] k2 pt2) X.env = pure (some [x, y]))
    (hs : swapsWithSole [.Tuple [.Name x px, .Name y py] kt pt] (.Tuple [a, b] k2 pt2) pos.line X.env = pure false := by rfl) :
    PS X (.Assign [.Tuple [.Name x px, .Name y py] kt pt] (.Tuple [a, b] k2 pt2) pos) (tPar i j ta) := by
  intro pins s σ H D I h
  rw [exec_Assign_arm]
  refine wpAny_bind (wpAny_standAt ?_)
  rw [hs]
  refine wpAny_bind (wpAny_pure ?_)
  rw [if_neg (by decide)]
  refine wpAny_bind (Tuple_ (thn (ha _ pins s σ H _ I h) fun us s1 ⟨vs, H1, I1, r1, q1⟩ => ?_))
  obtain ⟨v, w, e1, q1⟩ := q1
  subst e1
  obtain ⟨u1, u2, rfl, rv, rw'⟩ : ∃ u1 u2, us = [u1, u2] ∧ RelV v u1 ∧ RelV w u2 := by
    cases r1 with
    | cons p q =>
      cases q with
      | cons p' q' =>
        cases q'
        exact ⟨_, _, rfl, p, p'⟩
  refine wpAny_newObj_type ?_ (by show 2 ≤ sizeLine; decide)
  have I2 : Inv X pins σ H1 { s1 with heap := s1.heap.push { cls := .type "tuple", data := .seq [u1, u2].toArray } } := I1.kept (t' := s1.toks) fun b o e => Heap.get?_push_of_some _ e
  rw [hw]
  refine wpAny_bind (wpAny_pure ?_)
  show wpAny (model X.prog X.w) X.A (do rule "assign.swapped-stores"; let items ← unpackItems (.ref s1.heap.objs.size) 2 none; assignInOrder [fun v => bindName X.env y v, fun v => bindName X.env x v] items.reverse; pure Flow.next) _ _ _
  refine wpAny_bind (wpAny_rule (wpAny_bind (unpackItems_tuple (items := #[u1, u2]) (I.ok.hd hc) (IsTup.new s1.heap _) fun h' hx' => ?_)))
  have I3 := I2.kept (h' := h') (t' := s1.toks) fun b o e => hx' b o (Nat.ne_of_lt (Heap.lt_size e)) e
  show wpAny _ _ (assignInOrder [fun v => bindName X.env y v, fun v => bindName X.env x v] [u2, u1] >>= fun _ => pure Flow.next) _ _ _
  refine wpAny_bind (assignInOrder_cons (wpAny_bindName (store_ok I3 hN hj (.inl hy) rw' (fun s2 I4 => ?_) (.inr hy))))
  refine assignInOrder_cons (wpAny_bindName (store_ok I4 hN hi (.inl hx) rv (fun s3 I5 => assignInOrder_nil (wpAny_pure ?_)) (.inr hx)))
  rw [List.set_comm _ _ (Ne.symm hij)] at I5
  exact ⟨_, H1, I5, q1⟩
/-- name op= e -/
def tAug (i : Nat) (te : TE) (ti : TIp) : TS := fun D σ H => ∃ x, σ[i]? = some (some x) ∧ te σ H fun y H1 => ti x y H1 fun z H2 => D.nx (σ.set i (some z)) H2
theorem ps_aug {i : Nat} {x : Str} {e : Expr} {te : TE} {op : Operator} {ti : TIp} {pos' : Pos} (hN : X.N.Nodup) (hi : X.N[i]? = some x) (hx : Loc X.env.scope x) (he : PE X e te) (ho : PIp X op ti) (hf : X.fn x = true ∨ X.env.scope.names.lookup x = some .local := by first | exact .inl rfl | exact .inr rfl | assumption) :
    PS X (.AugAssign (.Name x pos') op e pos) (tAug i te ti) := by
  intro pins s σ H D I h
  obtain ⟨v, e1, h⟩ := h
  obtain ⟨m, hn, hl⟩ := I.loc
  have vis : Vis X.env.scope x := by rcases hx with k | k; exact .inl k; exact .inr (.inl k)
  obtain ⟨u, r, l⟩ := hl i x v hi e1 vis
  refine wpAny_AugAssign_Name ?_
  have go : wpAny (model X.prog X.w) X.A (eval e X.env) (fun w s₂ => wpAny (model X.prog X.w) X.A (inplaceOp op u w) (fun r s₃ => wpAny (model X.prog X.w) X.A (storeName X.env x r) (fun _ => SP X pins D .next) X.xe s₃) X.xe s₂) X.xe s := by
    refine thn (he pins s σ H _ I h) fun w s1 ⟨y, H1, I1, r1, q1⟩ => ?_
    refine thn (ho pins s1 σ H1 v y u w _ I1 r r1 q1) fun z s2 ⟨zv, H2, I2, r2, q2⟩ => ?_
    exact store_ok I2 hN hi hx r2 (fun s3 I3 => ⟨_, H2, I3, q2⟩) hf
  rcases l with ⟨hk, hm⟩ | ⟨hk, c, hc, hcell⟩
  · exact wpAny_loadName_local I.ok.kind hk hn hm go
  · rcases hk with hk | hk
    · exact wpAny_loadName_cell I.ok.kind hk hc hcell go
    · rcases hx with k | k
      · have : X.env.scope.names.lookup x = some .free := hk
        rw [k] at this; cases this
      · have : X.env.scope.names.lookup x = some .free := hk
        rw [k] at this; cases this
/-- o[i] op= e -/
def tAugS (to ti te : TE) (tget : V → V → Hp → VK → Prop) (tip : TIp) (tset : TSet) : TS := fun D σ H => to σ H fun o H1 => ti σ H1 fun i H2 => tget o i H2 fun x H3 => te σ H3 fun y H4 => tip x y H4 fun z H5 => tset o i z H5 fun H6 => D.nx σ H6
/-- o[i], by values -/
def PGet (X : Cx) (t : V → V → Hp → VK → Prop) : Prop :=
  ∀ (pins : List (Addr × Obj)) (s : Shared) (σ : St) (H : Hp) (o i : V) (ov iv : Value) (Q : VK), Inv X pins σ H s → RelV o ov → RelV i iv → t o i H Q →
    wpAny (model X.prog X.w) X.A (getItem ov iv) (EP X pins σ Q) X.xe s
theorem ps_augS {o i e : Expr} {to ti te : TE} {tget : V → V → Hp → VK → Prop} {tip : TIp} {tset : TSet} {op : Operator} {tpos : Pos} (ho : PE X o to) (hi : PE X i ti) (hg : PGet X tget) (he : PE X e te) (hp : PIp X op tip) (hs : PSet X tset)
    (ha : ∀ ov iv new, augStore i ov iv new = (do holding [new, ov, iv] (setItem ov iv new); release [new, ov, iv] []; pure .next) := by intros; rfl) : PS X (.AugAssign (.Subscript o i tpos) op e pos) (tAugS to ti te tget tip tset) := by
  intro pins s σ H D I h
  refine wpAny_AugAssign_SubscriptAny (thn (ho pins s σ H _ I h) fun ov s1 ⟨x1, H1, I1, r1, q1⟩ => ?_) ha
  refine thn (hi pins s1 σ H1 _ I1 q1) fun iv s2 ⟨x2, H2, I2, r2, q2⟩ => ?_
  refine thn (hg pins s2 σ H2 x1 x2 ov iv _ I2 r1 r2 q2) fun old s3 ⟨x3, H3, I3, r3, q3⟩ => ?_
  refine thn (he pins s3 σ H3 _ I3 q3) fun v s4 ⟨x4, H4, I4, r4, q4⟩ => ?_
  refine thn (hp pins s4 σ H4 x3 x4 old v _ I4 r3 r4 q4) fun new s5 ⟨x5, H5, I5, r5, q5⟩ => ?_
  exact thn (hs pins s5 σ H5 x1 x2 x5 ov iv new _ I5 r1 r2 r5 q5) fun _ s6 ⟨H6, I6, q6⟩ => ⟨σ, H6, I6, q6⟩
/-- ints -/
def ipI (f : Int → Int → Int) : TIp := fun x y H Q => ∃ i j, x = .int i ∧ y = .int j ∧ Q (.int (f i j)) H
theorem ip_add : PIp X .Add (ipI fun i j => i + j) := by
  intro pins s σ H x y v u Q I r1 r2 h
  obtain ⟨i, j, e1, e2, q⟩ := h
  subst e1; subst e2
  obtain ⟨t, rfl⟩ := r1
  obtain ⟨t', rfl⟩ := r2
  exact iadd_int ⟨.int _, H, I.tok _, ⟨_, rfl⟩, q⟩
theorem ip_sub : PIp X .Sub (ipI fun i j => i - j) := by
  intro pins s σ H x y v u Q I r1 r2 h
  obtain ⟨i, j, e1, e2, q⟩ := h
  subst e1; subst e2
  obtain ⟨t, rfl⟩ := r1
  obtain ⟨t', rfl⟩ := r2
  exact isub_int ⟨.int _, H, I.tok _, ⟨_, rfl⟩, q⟩
end

/-! ### while -/
section
variable {X : Cx} {pos : Pos}
/-- the invariant W with its measure -/
def tWhile (c : TT) (tb : TS) : TS := fun D σ H => ∃ W : Nat → St → Hp → Prop, (∃ m, W m σ H) ∧ ∀ m σ H, W m σ H →
  c σ H fun b H1 => if b = true then ∃ N : St → Hp → Prop, (∀ σ' H', N σ' H' → ∃ m', m' < m ∧ W m' σ' H') ∧ tb { D with nx := N, ct := N, bk := D.nx } σ H1 else D.nx σ H1
theorem ps_while {c : Expr} {body : List Stmt} {tc : TT} {tb : TS} (hp : PassesOwn (model X.prog X.w) X.A X.env X.xe) (hc : PT X c tc) (hb : PSs X body tb) : PS X (.While c body [] pos) (tWhile tc tb) := by
  intro pins s σ H D I h
  obtain ⟨W, ⟨m0, w0⟩, turn⟩ := h
  refine wpAny_While (codeAny_whileLoop (fun n s' => ∃ σ' H', Inv X pins σ' H' s' ∧ W n σ' H') ?_ m0 ⟨σ, H, I, w0⟩)
  rintro n s1 ⟨σ1, H1, I1, w1⟩
  refine wpAny_passesOwn hp (thn (hc pins s1 σ1 H1 _ I1 (turn n σ1 H1 w1)) fun b s2 ⟨H2, I2, q2⟩ => ?_)
  cases b with
  | true =>
    obtain ⟨N, hN, q2⟩ := q2
    rw [if_pos rfl]
    refine wpAny_passesOwn hp (thn (hb pins s2 σ1 H2 _ I2 q2) fun f s3 q3 => ?_)
    cases f with
    | next =>
      obtain ⟨σ3, H3, I3, n3⟩ := q3
      obtain ⟨m', hm, w3⟩ := hN σ3 H3 n3
      exact ⟨m', hm, σ3, H3, I3, w3⟩
    | cont =>
      obtain ⟨σ3, H3, I3, n3⟩ := q3
      obtain ⟨m', hm, w3⟩ := hN σ3 H3 n3
      exact ⟨m', hm, σ3, H3, I3, w3⟩
    | brk => exact q3
    | ret v => exact q3
  | false =>
    rw [if_neg Bool.false_ne_true]
    exact wpAny_execs_nil ⟨σ1, H2, I2, q2⟩
end

/-! ### what a loop or a comprehension walks -/
/-- at turn i: it yields x (the heap may grow), or it stops -/
structure It where
  go : Nat → Hp → Prop
  yld : Nat → Hp → V → Hp → Prop
  stop : Nat → Hp → Prop
/-- the iterator's own objects may turn: they are not the frame's, not pinned, younger than the entry (or a comprehension's own) -/
def FpOk (X : Cx) (pins : List (Addr × Obj)) (H : Hp) (b : Addr) : Prop :=
  H b = none ∧ b ≠ X.env.locals ∧ b ∉ X.fs ∧ (b ∈ X.ex ∨ X.s₀.heap.objs.size ≤ b) ∧ (∀ x c, X.env.cells.lookup x = some c → c ≠ b) ∧ ∀ p ∈ X.pn ++ pins, p.1 ≠ b
theorem Inv.fpOk {X : Cx} {pins : List (Addr × Obj)} {σ : St} {H H' : Hp} {s : Shared} {b : Addr} (I : Inv X pins σ H s) (hb : s.heap.objs.size ≤ b) (hn : H' b = none) : FpOk X pins H' b := by
  refine ⟨hn, Nat.ne_of_gt (Nat.lt_of_lt_of_le I.lt hb), I.nofs hb, .inr (Nat.le_trans I.sz hb), fun x c e z => ?_, fun p hp z => ?_⟩
  · obtain ⟨v, q⟩ := I.cell x c e
    exact absurd (Nat.lt_of_lt_of_le q.lt (by rw [z]; exact hb)) (Nat.lt_irrefl _)
  · exact absurd (Nat.lt_of_lt_of_le (Heap.lt_size (I.pin p hp).1) (by rw [z]; exact hb)) (Nat.lt_irrefl _)
structure Turn (P : Program) (w : World) (K : PySem.W.Frag) (tg : Expr) (J : It) (fp : List Addr) (it : Addr) (tn : Nat → Heap → Prop) : Prop where
  mem : it ∈ fp
  obj : ∀ i h, tn i h → ∀ b ∈ fp, ∃ o, h.get? b = some o ∧ ∀ v, o.data ≠ .cell v
  keep : ∀ i h h', tn i h → (∀ b ∈ fp, ∀ o, h.get? b = some o → h'.get? b = some o) → tn i h'
  item : ∀ (X : Cx), X.prog = P → X.w = w → X.K = K → X.calm = true → ∀ (i : Nat) (pins : List (Addr × Obj)) (s : Shared) (σ : St) (H : Hp) (E : Value → Shared → Prop), Inv X pins σ H s → (∀ b ∈ fp, FpOk X pins H b) → tn i s.heap → J.go i H →
    wpAny (model P w) X.A (pyNext (.ref it)) (fun r s1 => ∃ u, r = some u ∧
      wpAny (model P w) X.A (letOwnedTupleGo tg (.ref it) u) (fun _ s2 => ∃ x H', Inv X pins σ H' s2 ∧ RelV x u ∧ J.yld i H x H' ∧ tn (i + 1) s2.heap ∧ ∀ b ∈ fp, H' b = none) E s1) E s
  done : ∀ (X : Cx), X.prog = P → X.w = w → X.K = K → X.calm = true → ∀ (i : Nat) (pins : List (Addr × Obj)) (s : Shared) (σ : St) (H : Hp) (E : Value → Shared → Prop), Inv X pins σ H s → (∀ b ∈ fp, FpOk X pins H b) → tn i s.heap → J.stop i H →
    wpAny (model P w) X.A (pyNext (.ref it)) (fun r s1 => r = none ∧ Inv X pins σ H s1) E s
  self : ∀ (A : Around) (i : Nat) (s : Shared) (Q : Value → Shared → Prop) (E : Value → Shared → Prop), tn i s.heap → Q (.ref it) s → wpAny (model P w) A (pyIter (.ref it)) Q E s
abbrev TI := St → Hp → (It → Hp → Prop) → Prop
/-- an iterator has come -/
def PIE (X : Cx) (pins : List (Addr × Obj)) (σ : St) (tg : Expr) (R : It → Hp → Prop) (itv : Value) (s2 : Shared) : Prop :=
  ∃ (it : Addr) (fp : List Addr) (tn : Nat → Heap → Prop) (J : It) (H' : Hp), itv = .ref it ∧ Inv X pins σ H' s2 ∧ Turn X.prog X.w X.K tg J fp it tn ∧ tn 0 s2.heap ∧ (∀ b ∈ fp, FpOk X pins H' b) ∧ R J H'
def PI (X : Cx) (tg iter : Expr) (wi : TI) : Prop :=
  ∀ (pins : List (Addr × Obj)) (s : Shared) (σ : St) (H : Hp) (R : It → Hp → Prop), Inv X pins σ H s → wi σ H R →
    wpAny (model X.prog X.w) X.A (eval iter X.env) (fun v s1 => wpAny (model X.prog X.w) X.A (pyIter v) (PIE X pins σ tg R) X.xe s1) X.xe s

/-- the step ahead of the store is nothing for an iterator that keeps no tuple -/
theorem go_of {M : Model} {A : Around} {E : Value → Shared → Prop} {s : Shared} {tg : Expr} {it : Addr} {u : Value} {o : Obj} {n : String} {vs : Array Value} {Q : Unit → Shared → Prop} (ho : s.heap.get? it = some o) (hc : o.cls = .type n) (hd : o.data = .fields vs)
    (hn : ["enumerate", "zip", "dict_itemiterator", "dict_reverseitemiterator", "odict_iterator", "itertools.zip_longest", "itertools.pairwise"].contains n = false) (hQ : Q () s) : wpAny M A (letOwnedTupleGo tg (.ref it) u) Q E s := by
  unfold letOwnedTupleGo
  cases tg <;> first
    | exact wpAny_pure hQ
    | (cases u <;> first
        | exact wpAny_pure hQ
        | (refine wpAny_bind (wpAny_load ho ?_)
           rw [hc, hd]
           show wpAny M A (if (["enumerate", "zip", "dict_itemiterator", "dict_reverseitemiterator", "odict_iterator", "itertools.zip_longest", "itertools.pairwise"].contains n && vs[0]? == some (rawInt _)) = true then _ else _) Q E s
           rw [if_neg (by intro h; rw [hn, Bool.false_and] at h; cases h)]
           exact wpAny_pure hQ))

/-- the list at a, as it stands at each turn (a loop may append to it) -/
def Itl (K : PySem.W.Frag) (a : Addr) : It :=
  ⟨fun i H => ∃ xs x, SqL K H a xs ∧ xs[i]? = some x, fun i H x H' => H' = H ∧ ∀ xs, SqL K H a xs → xs[i]? = some x, fun i H => ∃ xs, SqL K H a xs ∧ xs.length ≤ i⟩
def Itt (K : PySem.W.Frag) (a : Addr) : It :=
  ⟨fun i H => ∃ xs x, SqT K H a xs ∧ xs[i]? = some x, fun i H x H' => H' = H ∧ ∀ xs, SqT K H a xs → xs[i]? = some x, fun i H => ∃ xs, SqT K H a xs ∧ xs.length ≤ i⟩
/-- lo, lo + 1, .. (n of them) -/
def Itr (lo : Int) (n : Nat) : It := ⟨fun i _ => i < n, fun i H x H' => H' = H ∧ x = .int (lo + i), fun i _ => n ≤ i⟩
theorem turn_list {P : Program} {w : World} {K : PySem.W.Frag} {tg : Expr} (a it : Addr) : Turn P w K tg (Itl K a) [it] it (fun i h => h.IsListIter it a i) where
  mem := by simp
  obj := fun i h st b hb => by
    have e : b = it := by simpa using hb
    subst e
    obtain ⟨o, e, c, d⟩ := st
    exact ⟨o, e, fun v z => by rw [d] at z; cases z⟩
  keep := fun i h h' st k => st.at fun o e => k it (by simp) o e
  item := by
    intro X hP hw hK hc i pins s σ H E I hf st hg
    subst hP hw hK
    obtain ⟨xs, x, hq, hx⟩ := hg
    obtain ⟨its, rv, p, hz⟩ := I.list hq
    obtain ⟨u, hu, ru⟩ := rv.get hx
    obtain ⟨f0, f1, f2, f3, f4, f5⟩ := hf it (by simp)
    refine wpAny_pyNext_list_item st p.isList (x := u) (by simpa using hu) fun h' st' sb => ?_
    have I1 : Inv X pins σ H { s with heap := h' } := I.turned (t' := s.toks) (fun b o hb e => (sb.2 b hb).trans e) f0 f1 f3 f4 f5
    obtain ⟨o, e, c, d⟩ := id st'
    exact ⟨u, rfl, go_of (s := { s with heap := h' }) e c d (by decide) ⟨x, H, I1, ru, ⟨rfl, fun ys hy => by rw [I.list_inj hy hq]; exact hx⟩, st', fun b hb => (hf b hb).1⟩⟩
  done := by
    intro X hP hw hK hc i pins s σ H E I hf st hg
    subst hP hw hK
    obtain ⟨xs, hq, hx⟩ := hg
    obtain ⟨its, rv, p, hz⟩ := I.list hq
    obtain ⟨f0, f1, f2, f3, f4, f5⟩ := hf it (by simp)
    have hl := rv.length
    exact wpAny_pyNext_list_end (I.ok.hd hc) st p.isList (by simp; omega) fun h' eb => ⟨rfl, I.turned (t' := s.toks) (fun b o hb e => eb b o hb e) f0 f1 f3 f4 f5⟩
  self := fun _ _ _ _ _ st h => wpAny_pyIter_listiter st h
theorem turn_tuple {P : Program} {w : World} {K : PySem.W.Frag} {tg : Expr} (a it : Addr) : Turn P w K tg (Itt K a) [it] it (fun i h => h.IsTupleIter it a i) where
  mem := by simp
  obj := fun i h st b hb => by
    have e : b = it := by simpa using hb
    subst e
    obtain ⟨o, e, c, d⟩ := st
    exact ⟨o, e, fun v z => by rw [d] at z; cases z⟩
  keep := fun i h h' st k => st.at fun o e => k it (by simp) o e
  item := by
    intro X hP hw hK hc i pins s σ H E I hf st hg
    subst hP hw hK
    obtain ⟨xs, x, hq, hx⟩ := hg
    obtain ⟨its, rv, p, hz⟩ := I.tuple hq
    obtain ⟨u, hu, ru⟩ := rv.get hx
    obtain ⟨f0, f1, f2, f3, f4, f5⟩ := hf it (by simp)
    refine wpAny_pyNext_tuple_item st (show s.heap.IsTuple a its.toArray from p) (x := u) (by simpa using hu) fun h' st' sb => ?_
    have I1 : Inv X pins σ H { s with heap := h' } := I.turned (t' := s.toks) (fun b o hb e => (sb.2 b hb).trans e) f0 f1 f3 f4 f5
    obtain ⟨o, e, c, d⟩ := id st'
    exact ⟨u, rfl, go_of (s := { s with heap := h' }) e c d (by decide) ⟨x, H, I1, ru, ⟨rfl, fun ys hy => by rw [I.tuple_inj hy hq]; exact hx⟩, st', fun b hb => (hf b hb).1⟩⟩
  done := by
    intro X hP hw hK hc i pins s σ H E I hf st hg
    subst hP hw hK
    obtain ⟨xs, hq, hx⟩ := hg
    obtain ⟨its, rv, p, hz⟩ := I.tuple hq
    obtain ⟨f0, f1, f2, f3, f4, f5⟩ := hf it (by simp)
    have hl := rv.length
    exact wpAny_pyNext_tuple_end (I.ok.hd hc) st (show s.heap.IsTuple a its.toArray from p) (by simp; omega) fun h' eb => ⟨rfl, I.turned (t' := s.toks) (fun b o hb e => eb b o hb e) f0 f1 f3 f4 f5⟩
  self := fun _ _ _ _ _ st h => wpAny_pyIter_tupleiter st h
theorem turn_range {P : Program} {w : World} {K : PySem.W.Frag} {tg : Expr} (it : Addr) (lo : Int) (n : Nat) : Turn P w K tg (Itr lo n) [it] it (fun i h => IsRangeIter h it (lo + (i : Nat) * 1) ((n : Int) - (i : Nat)) 1) where
  mem := by simp
  obj := fun i h st b hb => by
    have e : b = it := by simpa using hb
    subst e
    exact ⟨_, st, fun v z => by
      have z' : Data.fields _ = Data.cell v := z
      cases z'⟩
  keep := fun i h h' st k => k it (by simp) _ st
  item := by
    intro X hP hw hK hc i pins s σ H E I hf st hg
    subst hP hw hK
    obtain ⟨f0, f1, f2, f3, f4, f5⟩ := hf it (by simp)
    have W := Walks.range (prog := X.prog) (w := X.w) (I.ok.hd hc) it lo 1 n
    refine W.item i s _ _ hg st fun v h' tk hv st' kk => ?_
    obtain ⟨t, rfl⟩ := hv
    have I1 : Inv X pins σ H { s with heap := h', toks := tk } := I.turned (fun b o hb e => kk b o (by simpa using hb) e) f0 f1 f3 f4 f5
    refine ⟨_, rfl, go_of (s := { s with heap := h', toks := tk }) (n := "range_iterator") st' rfl rfl (by decide) ⟨.int (lo + i), H, I1, ⟨t, ?_⟩, ⟨rfl, rfl⟩, st', fun b hb => (hf b hb).1⟩⟩
    rw [Int.mul_one]
  done := by
    intro X hP hw hK hc i pins s σ H E I hf st hg
    subst hP hw hK
    obtain ⟨f0, f1, f2, f3, f4, f5⟩ := hf it (by simp)
    exact wpAny_pyNext_range_end (I.ok.hd hc) st (by have : n ≤ i := hg; omega) fun h' eb => ⟨rfl, I.turned (t' := s.toks) (fun b o hb e => eb b o hb e) f0 f1 f3 f4 f5⟩
  self := fun _ _ _ _ _ st h => wpAny_pyIter_rangeiter st h
end L2

namespace L2
open PySem PySem.Spec PyProof.Rows
section
variable {X : Cx} {tg : Expr}
def iList (K : PySem.W.Frag) (tl : TE) : TI := fun σ H R => tl σ H fun x H1 => ∃ a, x = .ref a ∧ (∃ xs, SqL K H1 a xs) ∧ R (Itl K a) H1
def iTup (K : PySem.W.Frag) (tl : TE) : TI := fun σ H R => tl σ H fun x H1 => ∃ a, x = .ref a ∧ (∃ xs, SqT K H1 a xs) ∧ R (Itt K a) H1
theorem pi_list {l : Expr} {tl : TE} (hl : PE X l tl) : PI X tg l (iList X.K tl) := by
  intro pins s σ H R I h
  refine thn (hl pins s σ H _ I h) fun v s1 ⟨x, H1, I1, r1, q1⟩ => ?_
  obtain ⟨a, e, ⟨xs, hq⟩, q⟩ := q1
  subst e
  cases r1
  obtain ⟨its, rv, p, hz⟩ := I1.list hq
  refine wpAny_pyIter_list p.isList ?_
  refine ⟨s1.heap.objs.size, [s1.heap.objs.size], _, _, H1, rfl, I1.kept (t' := s1.toks) fun b o e => Heap.get?_push_of_some _ e, turn_list a _, ⟨_, Heap.get?_push_size _ rfl, rfl, rfl⟩, fun b hb => ?_, q⟩
  have e : b = s1.heap.objs.size := by simpa using hb
  subst e
  exact I1.fpOk (Nat.le_refl _) (I1.hok.fresh (Nat.le_refl _))
theorem pi_tup {l : Expr} {tl : TE} (hl : PE X l tl) : PI X tg l (iTup X.K tl) := by
  intro pins s σ H R I h
  refine thn (hl pins s σ H _ I h) fun v s1 ⟨x, H1, I1, r1, q1⟩ => ?_
  obtain ⟨a, e, ⟨xs, hq⟩, q⟩ := q1
  subst e
  cases r1
  obtain ⟨its, rv, p, hz⟩ := I1.tuple hq
  refine wpAny_pyIter_tuple (show s1.heap.IsTuple a its.toArray from p) ?_
  refine ⟨s1.heap.objs.size, [s1.heap.objs.size], _, _, H1, rfl, I1.kept (t' := s1.toks) fun b o e => Heap.get?_push_of_some _ e, turn_tuple a _, ⟨_, Heap.get?_push_size _ rfl, rfl, rfl⟩, fun b hb => ?_, q⟩
  have e : b = s1.heap.objs.size := by simpa using hb
  subst e
  exact I1.fpOk (Nat.le_refl _) (I1.hok.fresh (Nat.le_refl _))
/-- a range object just made, walked -/
theorem range_it {pins : List (Addr × Obj)} {σ : St} {H : Hp} {s : Shared} {R : It → Hp → Prop} {E : Value → Shared → Prop} {lo hi : Int} {t u v : Tok} {tk : Nat} (I : Inv X pins σ H s) (h1 : -(2 ^ 62) ≤ lo) (h2 : lo < 2 ^ 62) (h3 : -(2 ^ 62) ≤ hi) (h4 : hi < 2 ^ 62)
    (q : R (Itr lo (hi - lo).toNat) H) : wpAny (model X.prog X.w) X.A (pyIter (.ref s.heap.objs.size)) (PIE X pins σ tg R) E { s with heap := s.heap.push { cls := .type "range", data := .fields #[.int lo t, .int hi u, .int 1 v] }, toks := tk } := by
  refine wpAny_pyIter_range (IsRange.new ..) (small_one h1 h2 h3 h4) ?_
  have I1 : Inv X pins σ H { s with heap := s.heap.push { cls := .type "range", data := .fields #[.int lo t, .int hi u, .int 1 v] }, toks := tk } := I.kept fun b o e => Heap.get?_push_of_some _ e
  refine ⟨(s.heap.push { cls := .type "range", data := .fields #[.int lo t, .int hi u, .int 1 v] }).objs.size, [(s.heap.push { cls := .type "range", data := .fields #[.int lo t, .int hi u, .int 1 v] }).objs.size], _, _, H, rfl,
    I1.kept (t' := tk) fun b o e => Heap.get?_push_of_some _ e, turn_range _ lo (hi - lo).toNat, ?_, fun b hb => ?_, q⟩
  · have e1 : lo + ((0 : Nat) : Int) * 1 = lo := by simp
    have e2 : (((hi - lo).toNat : Nat) : Int) - ((0 : Nat) : Int) = Builtin.Range.rangeSize lo hi 1 := by rw [rangeSize_one]; split <;> omega
    show IsRangeIter _ _ (lo + ((0 : Nat) : Int) * 1) ((((hi - lo).toNat : Nat) : Int) - ((0 : Nat) : Int)) 1
    rw [e1, e2]
    exact Heap.get?_push_size _ rfl
  · have e : b = (s.heap.push { cls := .type "range", data := .fields #[.int lo t, .int hi u, .int 1 v] }).objs.size := by simpa using hb
    subst e
    exact I1.fpOk (Nat.le_refl _) (I1.hok.fresh (Nat.le_refl _))
def iRng1 (ta : TA) : TI := fun σ H R => ta σ H fun vs H1 => ∃ j : Int, vs = [.int j] ∧ -(2 ^ 62) ≤ j ∧ j < 2 ^ 62 ∧ R (Itr 0 j.toNat) H1
def iRng2 (ta : TA) : TI := fun σ H R => ta σ H fun vs H1 => ∃ i j : Int, vs = [.int i, .int j] ∧ (-(2 ^ 62) ≤ i ∧ i < 2 ^ 62 ∧ -(2 ^ 62) ≤ j ∧ j < 2 ^ 62) ∧ R (Itr i (j - i).toNat) H1
theorem pi_range1 {a : Expr} {ta : TA} {p pos : Pos} (hg : Gl X "range") (hm : X.mg "range" = none) (ha : PA X [a] ta) (hs : starEach [a] X.env = [(false, eval a X.env)] := by rfl) : PI X tg (.Call (.Name "range" p) [a] [] pos) (iRng1 ta) := by
  intro pins s σ H R I h
  refine Call_ (ld_blt I hg hm boot_range (PyProof.Rows.callWith_type1 (thn (ha pos pins s σ H _ I h) fun us s1 ⟨vs, H1, I1, r1, q1⟩ => ?_) hs rfl))
  obtain ⟨j, e, q1, q2, q⟩ := q1
  subst e
  cases r1 with
  | cons r rr =>
    cases rr
    obtain ⟨t, rfl⟩ := r
    exact call_range_1 (range_it I1 (by omega) (by omega) q1 q2 (by simpa using q))
theorem pi_range2 {a b : Expr} {ta : TA} {p pos : Pos} (hg : Gl X "range") (hm : X.mg "range" = none) (ha : PA X [a, b] ta) (hs : starEach [a, b] X.env = [(false, eval a X.env), (false, eval b X.env)] := by rfl) (hs2 : starEach [b] X.env = [(false, eval b X.env)] := by rfl) :
    PI X tg (.Call (.Name "range" p) [a, b] [] pos) (iRng2 ta) := by
  intro pins s σ H R I h
  refine Call_ (ld_blt I hg hm boot_range (PyProof.Rows.callWith_type1 (thn (ha pos pins s σ H _ I h) fun us s1 ⟨vs, H1, I1, r1, q1⟩ => ?_) (by rw [hs, hs2]) (by rw [hs2]; rfl)))
  obtain ⟨i, j, e, ⟨q1, q2, q3, q4⟩, q⟩ := q1
  subst e
  cases r1 with
  | cons r rr =>
    cases rr with
    | cons r' rr =>
      cases rr
      obtain ⟨t, rfl⟩ := r
      obtain ⟨t', rfl⟩ := r'
      exact call_range_2 (range_it I1 q1 q2 q3 q4 q)

/-! ### for -/
/-- W: the invariant by the turn and a measure; N: what the body is to reach -/
def tFor (wi : TI) (g : TG) (tb : TS) : TS := fun D σ H => wi σ H fun J H1 => ∃ W : Nat → Nat → St → Hp → Prop, (∃ m, W 0 m σ H1) ∧ ∀ i m σ H, W i m σ H →
  (J.stop i H ∧ D.nx σ H) ∨ (J.go i H ∧ ∃ N : St → Hp → Prop, (∀ σ' H', N σ' H' → ∃ m', m' < m ∧ W (i + 1) m' σ' H') ∧ ∀ x H', J.yld i H x H' → g x σ H' fun σ2 H2 => tb { D with nx := N, ct := N, bk := D.nx } σ2 H2)
/-- the records at fp as they stand -/
def pinsAt (fp : List Addr) (h : Heap) : List (Addr × Obj) := fp.filterMap fun b => (h.get? b).map fun o => (b, o)
theorem mem_pinsAt {fp : List Addr} {h : Heap} {b : Addr} {o : Obj} (hb : b ∈ fp) (e : h.get? b = some o) : (b, o) ∈ pinsAt fp h := List.mem_filterMap.mpr ⟨b, hb, by rw [e]; rfl⟩
theorem of_pinsAt {fp : List Addr} {h : Heap} {p : Addr × Obj} (hp : p ∈ pinsAt fp h) : p.1 ∈ fp ∧ h.get? p.1 = some p.2 := by
  obtain ⟨b, hb, e⟩ := List.mem_filterMap.mp hp
  cases q : h.get? b with
  | none => rw [q] at e; cases e
  | some o =>
    rw [q] at e
    have e' : (b, o) = p := Option.some.inj e
    subst e'
    exact ⟨hb, q⟩
theorem Inv.pinned {pins : List (Addr × Obj)} {σ : St} {H : Hp} {s : Shared} {fp : List Addr} (I : Inv X pins σ H s) (hf : ∀ b ∈ fp, FpOk X pins H b) (ho : ∀ b ∈ fp, ∃ o, s.heap.get? b = some o ∧ ∀ v, o.data ≠ .cell v) : Inv X (pins ++ pinsAt fp s.heap) σ H s :=
  I.pins_of fun p hp => (List.mem_append.mp hp).elim (fun z => I.pin p (List.mem_append_right _ z)) fun z => by
    obtain ⟨hb, e⟩ := of_pinsAt z
    obtain ⟨f0, f1, f2, _⟩ := hf p.1 hb
    obtain ⟨o, e', d⟩ := ho p.1 hb
    rw [e] at e'; cases e'
    exact ⟨e, f0, f1, f2, d⟩
theorem Inv.unpinned {pins pl : List (Addr × Obj)} {σ : St} {H : Hp} {s : Shared} (I : Inv X (pins ++ pl) σ H s) : Inv X pins σ H s := I.pins_of fun p hp => I.pin p (List.mem_append_right _ (List.mem_append_left _ hp))
theorem ps_for {iter : Expr} {body : List Stmt} {wi : TI} {g : TG} {tb : TS} {pos : Pos} (hp : PassesOwn (model X.prog X.w) X.A X.env X.xe) (hc : X.calm = true) (hi : PI X tg iter wi) (hg : PG X tg g) (hb : PSs X body tb)
    (hs : ∀ x, foldedSetIterable iter X.env x = pure x := by intro _; rfl) : PS X (.For tg iter body [] pos) (tFor wi g tb) := by
  intro pins s σ H D I h
  refine wpAny_For (thn (hi pins s σ H _ I h) fun v s1 h1 => thn h1 fun itv s2 h2 => ?_) hs
  obtain ⟨it, fp, tn, J, H2, e, I2, T, st2, f2, W, ⟨m0, w0⟩, turn⟩ := h2
  subst e
  -- what stays true of the iterator's objects through the loop
  have stat : ∀ {H' : Hp}, (∀ b ∈ fp, H' b = none) → ∀ b ∈ fp, FpOk X pins H' b := fun hn b hb => ⟨hn b hb, (f2 b hb).2⟩
  refine codeAny_forLoop_any (fun n s' => ∃ i σ' H', Inv X pins σ' H' s' ∧ tn i s'.heap ∧ (∀ b ∈ fp, H' b = none) ∧ W i n σ' H') ?_ m0 ⟨0, σ, H2, I2, st2, fun b hb => (f2 b hb).1, w0⟩
  rintro n s3 ⟨i, σ3, H3, I3, st3, fr3, w3⟩
  rcases turn i n σ3 H3 w3 with ⟨stop, qn⟩ | ⟨go, N, hN, step⟩
  · refine wpAny_passesOwn hp (thn (T.done X rfl rfl rfl hc i pins s3 σ3 H3 X.xe I3 (stat fr3) st3 stop) fun r s4 ⟨hr, I4⟩ => ?_)
    subst hr
    exact wpAny_execs_nil ⟨σ3, H3, I4, qn⟩
  · refine wpAny_passesOwn hp (thn (T.item X rfl rfl rfl hc i pins s3 σ3 H3 X.xe I3 (stat fr3) st3 go) fun r s4 ⟨u, hr, h4⟩ => ?_)
    subst hr
    refine wpAny_passesOwn hp (thn h4 fun _ s5 ⟨x, H5, I5, r5, y5, st5, fr5⟩ => ?_)
    have I5' := I5.pinned (stat fr5) (T.obj _ _ st5)
    refine wpAny_passesOwn hp (thn (hg _ s5 σ3 H5 x u _ I5' r5 (step x H5 y5)) fun _ s6 ⟨σ6, H6, I6, q6⟩ => ?_)
    refine wpAny_passesOwn hp (thn (hb _ s6 σ6 H6 _ I6 q6) fun f s7 q7 => ?_)
    have again : ∀ {σ7 : St} {H7 : Hp}, Inv X (pins ++ pinsAt fp s5.heap) σ7 H7 s7 → N σ7 H7 → ∃ m, m < n ∧ ∃ i σ' H', Inv X pins σ' H' s7 ∧ tn i s7.heap ∧ (∀ b ∈ fp, H' b = none) ∧ W i m σ' H' := fun {σ7 H7} I7 n7 => by
      obtain ⟨m', hm, w7⟩ := hN σ7 H7 n7
      refine ⟨m', hm, i + 1, σ7, H7, I7.unpinned, T.keep _ _ _ st5 fun b hb o e => (I7.pin (b, o) (List.mem_append_right _ (List.mem_append_right _ (mem_pinsAt hb e)))).1, fun b hb => ?_, w7⟩
      obtain ⟨o, e, d⟩ := T.obj _ _ st5 b hb
      exact (I7.pin (b, o) (List.mem_append_right _ (List.mem_append_right _ (mem_pinsAt hb e)))).2.1
    cases f with
    | next => obtain ⟨σ7, H7, I7, n7⟩ := q7; exact again I7 n7
    | cont => obtain ⟨σ7, H7, I7, n7⟩ := q7; exact again I7 n7
    | brk => obtain ⟨σ7, H7, I7, q7⟩ := q7; exact ⟨σ7, H7, I7.unpinned, q7⟩
    | ret v => obtain ⟨x7, σ7, H7, I7, r7, q7⟩ := q7; exact ⟨x7, σ7, H7, I7.unpinned, r7, q7⟩
end

/-! ### the forms one uses -/
/-- over a list that the body leaves as it is -/
theorem for_list {K : PySem.W.Frag} {a : Addr} {xs : List V} {g : TG} {tb : TS} {D : Ends} {σ : St} {H : Hp} (Pv : Nat → St → Hp → Prop) (h0 : Pv 0 σ H) (hl : ∀ i σ H, i ≤ xs.length → Pv i σ H → SqL K H a xs)
    (hs : ∀ i x σ H, xs[i]? = some x → Pv i σ H → g x σ H fun σ2 H2 => tb { D with nx := Pv (i + 1), ct := Pv (i + 1), bk := D.nx } σ2 H2) (hd : ∀ σ H, Pv xs.length σ H → D.nx σ H) :
    ∃ W : Nat → Nat → St → Hp → Prop, (∃ m, W 0 m σ H) ∧ ∀ i m σ H, W i m σ H →
      ((Itl K a).stop i H ∧ D.nx σ H) ∨ ((Itl K a).go i H ∧ ∃ N : St → Hp → Prop, (∀ σ' H', N σ' H' → ∃ m', m' < m ∧ W (i + 1) m' σ' H') ∧ ∀ x H', (Itl K a).yld i H x H' → g x σ H' fun σ2 H2 => tb { D with nx := N, ct := N, bk := D.nx } σ2 H2) := by
  refine ⟨fun i m σ H => m = xs.length - i ∧ i ≤ xs.length ∧ Pv i σ H, ⟨xs.length, by simp, Nat.zero_le _, h0⟩, ?_⟩
  rintro i m σ H ⟨rfl, hi, p⟩
  have q := hl i σ H hi p
  by_cases hlt : i < xs.length
  · refine .inr ⟨⟨xs, xs[i], q, by simp [hlt]⟩, Pv (i + 1), fun σ' H' p' => ⟨xs.length - (i + 1), by omega, rfl, hlt, p'⟩, fun x H' y => ?_⟩
    obtain ⟨e, y⟩ := y
    subst e
    exact hs i x σ _ (y xs q) p
  · have e : i = xs.length := by omega
    subst e
    exact .inl ⟨⟨xs, q, Nat.le_refl _⟩, hd σ H p⟩
theorem for_tup {K : PySem.W.Frag} {a : Addr} {xs : List V} {g : TG} {tb : TS} {D : Ends} {σ : St} {H : Hp} (Pv : Nat → St → Hp → Prop) (h0 : Pv 0 σ H) (hl : ∀ i σ H, i ≤ xs.length → Pv i σ H → SqT K H a xs)
    (hs : ∀ i x σ H, xs[i]? = some x → Pv i σ H → g x σ H fun σ2 H2 => tb { D with nx := Pv (i + 1), ct := Pv (i + 1), bk := D.nx } σ2 H2) (hd : ∀ σ H, Pv xs.length σ H → D.nx σ H) :
    ∃ W : Nat → Nat → St → Hp → Prop, (∃ m, W 0 m σ H) ∧ ∀ i m σ H, W i m σ H →
      ((Itt K a).stop i H ∧ D.nx σ H) ∨ ((Itt K a).go i H ∧ ∃ N : St → Hp → Prop, (∀ σ' H', N σ' H' → ∃ m', m' < m ∧ W (i + 1) m' σ' H') ∧ ∀ x H', (Itt K a).yld i H x H' → g x σ H' fun σ2 H2 => tb { D with nx := N, ct := N, bk := D.nx } σ2 H2) := by
  refine ⟨fun i m σ H => m = xs.length - i ∧ i ≤ xs.length ∧ Pv i σ H, ⟨xs.length, by simp, Nat.zero_le _, h0⟩, ?_⟩
  rintro i m σ H ⟨rfl, hi, p⟩
  have q := hl i σ H hi p
  by_cases hlt : i < xs.length
  · refine .inr ⟨⟨xs, xs[i], q, by simp [hlt]⟩, Pv (i + 1), fun σ' H' p' => ⟨xs.length - (i + 1), by omega, rfl, hlt, p'⟩, fun x H' y => ?_⟩
    obtain ⟨e, y⟩ := y
    subst e
    exact hs i x σ _ (y xs q) p
  · have e : i = xs.length := by omega
    subst e
    exact .inl ⟨⟨xs, q, Nat.le_refl _⟩, hd σ H p⟩
theorem for_range {lo : Int} {n : Nat} {g : TG} {tb : TS} {D : Ends} {σ : St} {H : Hp} (Pv : Nat → St → Hp → Prop) (h0 : Pv 0 σ H)
    (hs : ∀ i σ H, i < n → Pv i σ H → g (.int (lo + i)) σ H fun σ2 H2 => tb { D with nx := Pv (i + 1), ct := Pv (i + 1), bk := D.nx } σ2 H2) (hd : ∀ σ H, Pv n σ H → D.nx σ H) :
    ∃ W : Nat → Nat → St → Hp → Prop, (∃ m, W 0 m σ H) ∧ ∀ i m σ H, W i m σ H →
      ((Itr lo n).stop i H ∧ D.nx σ H) ∨ ((Itr lo n).go i H ∧ ∃ N : St → Hp → Prop, (∀ σ' H', N σ' H' → ∃ m', m' < m ∧ W (i + 1) m' σ' H') ∧ ∀ x H', (Itr lo n).yld i H x H' → g x σ H' fun σ2 H2 => tb { D with nx := N, ct := N, bk := D.nx } σ2 H2) := by
  refine ⟨fun i m σ H => m = n - i ∧ i ≤ n ∧ Pv i σ H, ⟨n, by simp, Nat.zero_le _, h0⟩, ?_⟩
  rintro i m σ H ⟨rfl, hi, p⟩
  by_cases hlt : i < n
  · refine .inr ⟨hlt, Pv (i + 1), fun σ' H' p' => ⟨n - (i + 1), by omega, rfl, hlt, p'⟩, fun x H' y => ?_⟩
    obtain ⟨e, y⟩ := y
    subst e y
    exact hs i σ _ hlt p
  · have e : i = n := by omega
    subst e
    exact .inl ⟨Nat.le_refl _, hd σ H p⟩
/-- while, by a word and a measure of the state -/
theorem while_by {c : TT} {tb : TS} {D : Ends} {σ : St} {H : Hp} (Pv : St → Hp → Prop) (μ : St → Hp → Nat) (h0 : Pv σ H)
    (hs : ∀ σ H, Pv σ H → c σ H fun b H1 => if b = true then tb { D with nx := fun σ' H' => Pv σ' H' ∧ μ σ' H' < μ σ H, ct := fun σ' H' => Pv σ' H' ∧ μ σ' H' < μ σ H, bk := D.nx } σ H1 else D.nx σ H1)
    (mono : ∀ σ H Q Q', (∀ b H1, Q b H1 → Q' b H1) → c σ H Q → c σ H Q') : tWhile c tb D σ H := by
  refine ⟨fun m σ H => m = μ σ H ∧ Pv σ H, ⟨_, rfl, h0⟩, ?_⟩
  rintro m σ H ⟨rfl, p⟩
  refine mono σ H _ _ (fun b H1 q => ?_) (hs σ H p)
  cases b with
  | true => exact ⟨_, fun σ' H' ⟨p', l⟩ => ⟨_, l, rfl, p'⟩, q⟩
  | false => exact q
end L2

namespace L2
open PySem PySem.Spec PyProof.Rows

abbrev R2 := V → V → Hp → VK → Prop
/-- a two-place operation on values: f is binaryOp op, inplaceOp op or compareOp op -/
def OpR (X : Cx) (f : Value → Value → Sem Value) (r : R2) : Prop :=
  ∀ (pins : List (Addr × Obj)) (s : Shared) (σ : St) (H : Hp) (x y : V) (v u : Value) (Q : VK), Inv X pins σ H s → RelV x v → RelV y u → r x y H Q →
    wpAny (model X.prog X.w) X.A (f v u) (EP X pins σ Q) X.xe s
/-- a one-place operation -/
def UnR (X : Cx) (f : Value → Sem Value) (r : V → Hp → VK → Prop) : Prop :=
  ∀ (pins : List (Addr × Obj)) (s : Shared) (σ : St) (H : Hp) (x : V) (v : Value) (Q : VK), Inv X pins σ H s → RelV x v → r x H Q →
    wpAny (model X.prog X.w) X.A (f v) (EP X pins σ Q) X.xe s
/-- a call of a value that is known (a builtin, a type) with values -/
def CallR (X : Cx) (f : Value) (r : List V → Hp → VK → Prop) : Prop :=
  ∀ (pins : List (Addr × Obj)) (s : Shared) (σ : St) (H : Hp) (xs : List V) (us : List Value) (Q : VK), Inv X pins σ H s → Vals xs us → r xs H Q →
    wpAny (model X.prog X.w) X.A (call f us) (EP X pins σ Q) X.xe s
/-- a value's truth -/
def TruR (X : Cx) (r : V → Hp → (Bool → Hp → Prop) → Prop) : Prop :=
  ∀ (pins : List (Addr × Obj)) (s : Shared) (σ : St) (H : Hp) (x : V) (v : Value) (Q : Bool → Hp → Prop), Inv X pins σ H s → RelV x v → r x H Q →
    wpAny (model X.prog X.w) X.A (truthy v) (TP X pins σ Q) X.xe s

def tOp (r : R2) (ta tb : TE) : TE := fun σ H Q => ta σ H fun x H1 => tb σ H1 fun y H2 => r x y H2 Q
def tUn (r : V → Hp → VK → Prop) (ta : TE) : TE := fun σ H Q => ta σ H fun x H1 => r x H1 Q
/-- ints in, under C, and a value out -/
def rI (C : Int → Int → Prop) (g : Int → Int → V) : R2 := fun x y H Q => ∃ i j, x = .int i ∧ y = .int j ∧ C i j ∧ Q (g i j) H
def rI0 (g : Int → Int → V) : R2 := fun x y H Q => ∃ i j, x = .int i ∧ y = .int j ∧ Q (g i j) H
def rU (g : Int → V) : V → Hp → VK → Prop := fun x H Q => ∃ i, x = .int i ∧ Q (g i) H

section
variable {X : Cx} {a b c : Expr} {ta tb tc : TE} {pos : Pos}

theorem binT (ha : PE X a ta) (hb : PE X b tb) {pins : List (Addr × Obj)} {s : Shared} {σ : St} {H : Hp} {R : V → V → Hp → Prop} (I : Inv X pins σ H s)
    (h : ta σ H fun x H1 => tb σ H1 fun y H2 => R x y H2) {Q : Value → Shared → Prop} {f : Value → Value → Sem Value}
    (hf : ∀ v u s2 x y H2, Inv X pins σ H2 s2 → RelV x v → RelV y u → R x y H2 → wpAny (model X.prog X.w) X.A (f v u) Q X.xe s2) :
    wpAny (model X.prog X.w) X.A (eval a X.env) (fun v s₁ => wpAny (model X.prog X.w) X.A (eval b X.env) (fun u s₂ => wpAny (model X.prog X.w) X.A (f v u) Q X.xe s₂) X.xe s₁) X.xe s := by
  refine thn (ha pins s σ H _ I h) fun v s1 ⟨x, H1, I1, r1, q1⟩ => ?_
  refine thn (hb pins s1 σ H1 _ I1 q1) fun u s2 ⟨y, H2, I2, r2, q2⟩ => ?_
  exact hf v u s2 x y H2 I2 r1 r2 q2

theorem pe_op {op : Operator} {r : R2} (ho : OpR X (binaryOp op) r) (ha : PE X a ta) (hb : PE X b tb) : PE X (.BinOp a op b pos) (tOp r ta tb) := by
  intro pins s σ H Q I h
  exact wpAny_BinOp (binT ha hb I h fun v u s2 x y H2 I2 rx ry q => ho pins s2 σ H2 x y v u Q I2 rx ry q)
theorem pe_un {op : UnaryOp} {r : V → Hp → VK → Prop} (ho : UnR X (unaryOp op) r) (ha : PE X a ta) : PE X (.UnaryOp op a pos) (tUn r ta) := by
  intro pins s σ H Q I h
  exact UnaryOp_ (thn (ha pins s σ H _ I h) fun v s1 ⟨x, H1, I1, r1, q1⟩ => ho pins s1 σ H1 x v Q I1 r1 q1)
/-- a op= e at a name: the name's slot i -/
theorem augR {op : Operator} {r : R2} (ho : OpR X (inplaceOp op) r) {pins : List (Addr × Obj)} {s : Shared} {σ : St} {H : Hp} {x y : V} {v u : Value} {Q : VK} (I : Inv X pins σ H s)
    (rx : RelV x v) (ry : RelV y u) (q : r x y H Q) : wpAny (model X.prog X.w) X.A (inplaceOp op v u) (EP X pins σ Q) X.xe s := ho pins s σ H x y v u Q I rx ry q

/-! ### ints -/
theorem opI {f : Value → Value → Sem Value} {C : Int → Int → Prop} {g : Int → Int → Int}
    (rule : ∀ (i j : Int) (t u : Tok) (s : Shared) (Q : Value → Shared → Prop) (E : Value → Shared → Prop), C i j → Q (.int (g i j) s.toks) { s with toks := s.toks + 1 } → wpAny (model X.prog X.w) X.A (f (.int i t) (.int j u)) Q E s) :
    OpR X f (rI C fun i j => .int (g i j)) := by
  intro pins s σ H x y v u Q I rx ry h
  obtain ⟨i, j, rfl, rfl, hc, q⟩ := h
  obtain ⟨t, rfl⟩ := rx
  obtain ⟨t', rfl⟩ := ry
  exact rule i j t t' s _ _ hc ⟨.int (g i j), H, I.tok _, ⟨_, rfl⟩, q⟩
theorem opI0 {f : Value → Value → Sem Value} {g : Int → Int → Int}
    (rule : ∀ (i j : Int) (t u : Tok) (s : Shared) (Q : Value → Shared → Prop) (E : Value → Shared → Prop), Q (.int (g i j) s.toks) { s with toks := s.toks + 1 } → wpAny (model X.prog X.w) X.A (f (.int i t) (.int j u)) Q E s) :
    OpR X f (rI0 fun i j => .int (g i j)) := by
  intro pins s σ H x y v u Q I rx ry h
  obtain ⟨i, j, rfl, rfl, q⟩ := h
  obtain ⟨t, rfl⟩ := rx
  obtain ⟨t', rfl⟩ := ry
  exact rule i j t t' s _ _ ⟨.int (g i j), H, I.tok _, ⟨_, rfl⟩, q⟩
theorem opB0 {f : Value → Value → Sem Value} {g : Int → Int → Bool}
    (rule : ∀ (i j : Int) (t u : Tok) (s : Shared) (Q : Value → Shared → Prop) (E : Value → Shared → Prop), Q (.bool (g i j)) s → wpAny (model X.prog X.w) X.A (f (.int i t) (.int j u)) Q E s) :
    OpR X f (rI0 fun i j => .bl (g i j)) := by
  intro pins s σ H x y v u Q I rx ry h
  obtain ⟨i, j, rfl, rfl, q⟩ := h
  obtain ⟨t, rfl⟩ := rx
  obtain ⟨t', rfl⟩ := ry
  exact rule i j t t' s _ _ ⟨.bl (g i j), H, I, rfl, q⟩

def CDiv (i j : Int) : Prop := 0 < j ∧ j < 1073741824
def CDivN (i j : Int) : Prop := j ≠ 0 ∧ j.natAbs < 1073741824
def CPow (i j : Int) : Prop := 0 ≤ j ∧ j ≤ 1000000 ∧ i.natAbs < 2 ^ 64
def CMul (i j : Int) : Prop := (-(2 ^ 64) < i ∧ i < 2 ^ 64) ∨ (-(2 ^ 64) < j ∧ j < 2 ^ 64)
theorem CMul.ok {i j : Int} (h : CMul i j) : IntMulOk i j := by
  rcases h with ⟨h1, h2⟩ | ⟨h1, h2⟩
  · exact .of_left (intBits_le_64 h1 h2)
  · exact .of_right (intBits_le_64 h1 h2)
theorem two_pow_nn (k : Nat) : (0 : Int) ≤ 2 ^ k := by
  rw [two_pow_cast]
  exact Int.natCast_nonneg _

theorem op_add : OpR X (binaryOp .Add) (rI0 fun i j => .int (i + j)) := opI0 fun _ _ _ _ _ _ _ q => add_int q
theorem op_sub : OpR X (binaryOp .Sub) (rI0 fun i j => .int (i - j)) := opI0 fun _ _ _ _ _ _ _ q => sub_int q
theorem op_mul : OpR X (binaryOp .Mult) (rI CMul fun i j => .int (i * j)) := opI fun _ _ _ _ _ _ _ hc q => mul_int q hc.ok
/-- // by a positive divisor -/
theorem op_fdiv : OpR X (binaryOp .FloorDiv) (rI CDiv fun i j => .int (i / j)) := opI fun i j _ _ _ _ _ hc q => by
  have h1 : (0 : Int) < j := hc.1
  have h2 : j < 1073741824 := hc.2
  exact floordiv_int (by omega) (by rw [Int.fdiv_eq_ediv_of_nonneg i (by omega)]; exact q) (.inl (PyProof.noPylong_small (by omega)))
theorem op_fdivN : OpR X (binaryOp .FloorDiv) (rI CDivN fun i j => .int (i.fdiv j)) := opI fun _ _ _ _ _ _ _ hc q => floordiv_int hc.1 q (.inl (PyProof.noPylong_small hc.2))
/-- % by a positive divisor of any size -/
theorem op_mod : OpR X (binaryOp .Mod) (rI (fun _ j => 0 < j) fun i j => .int (i % j)) := opI fun i j _ _ _ _ _ hc q => by
  have h1 : (0 : Int) < j := hc
  exact mod_int' (by omega) (by rw [Int.fmod_eq_emod_of_nonneg i (by omega)]; exact q)
theorem op_modN : OpR X (binaryOp .Mod) (rI (fun _ j => j ≠ 0) fun i j => .int (i.fmod j)) := opI fun _ _ _ _ _ _ _ hc q => mod_int' hc q
theorem op_pow : OpR X (binaryOp .Pow) (rI CPow fun i j => .int (i ^ j.toNat)) := opI fun _ _ _ _ _ _ _ hc q => pow_int_small hc.1 hc.2.1 hc.2.2 q
theorem op_shl : OpR X (binaryOp .LShift) (rI CPow fun i j => .int (i * 2 ^ j.toNat)) := opI fun _ _ _ _ _ _ _ hc q => lshift_int_small hc.1 hc.2.1 hc.2.2 q
theorem op_shr : OpR X (binaryOp .RShift) (rI (fun _ j => 0 ≤ j) fun i j => .int (i / 2 ^ j.toNat)) := opI fun i j _ _ _ _ _ hc q =>
  rshift_int hc (by rw [Int.fdiv_eq_ediv_of_nonneg i (two_pow_nn _)]; exact q)
theorem op_and : OpR X (binaryOp .BitAnd) (rI0 fun i j => .int (Builtin.bitAnd i j)) := opI0 fun _ _ _ _ _ _ _ q => and_int q
theorem op_or : OpR X (binaryOp .BitOr) (rI0 fun i j => .int (Builtin.bitOr i j)) := opI0 fun _ _ _ _ _ _ _ q => or_int q
theorem op_xor : OpR X (binaryOp .BitXor) (rI0 fun i j => .int (Builtin.bitXor i j)) := opI0 fun _ _ _ _ _ _ _ q => xor_int q

theorem iop_add : OpR X (inplaceOp .Add) (rI0 fun i j => .int (i + j)) := opI0 fun _ _ _ _ _ _ _ q => iadd_int q
theorem iop_sub : OpR X (inplaceOp .Sub) (rI0 fun i j => .int (i - j)) := opI0 fun _ _ _ _ _ _ _ q => isub_int q
theorem iop_mul : OpR X (inplaceOp .Mult) (rI CMul fun i j => .int (i * j)) := opI fun _ _ _ _ _ _ _ hc q => imul_int q hc.ok
theorem iop_fdiv : OpR X (inplaceOp .FloorDiv) (rI CDiv fun i j => .int (i / j)) := opI fun i j _ _ _ _ _ hc q => by
  have h1 : (0 : Int) < j := hc.1
  have h2 : j < 1073741824 := hc.2
  exact ifloordiv_int (by omega) (by rw [Int.fdiv_eq_ediv_of_nonneg i (by omega)]; exact q) (.inl (PyProof.noPylong_small (by omega)))
theorem iop_mod : OpR X (inplaceOp .Mod) (rI (fun _ j => 0 < j) fun i j => .int (i % j)) := opI fun i j _ _ _ _ _ hc q => by
  have h1 : (0 : Int) < j := hc
  exact imod_int (by omega) (by rw [Int.fmod_eq_emod_of_nonneg i (by omega)]; exact q)
theorem iop_shl : OpR X (inplaceOp .LShift) (rI CPow fun i j => .int (i * 2 ^ j.toNat)) := opI fun _ _ _ _ _ _ _ hc q => ilshift_int_small hc.1 hc.2.1 hc.2.2 q
theorem iop_shr : OpR X (inplaceOp .RShift) (rI (fun _ j => 0 ≤ j) fun i j => .int (i / 2 ^ j.toNat)) := opI fun i j _ _ _ _ _ hc q =>
  irshift_int hc (by rw [Int.fdiv_eq_ediv_of_nonneg i (two_pow_nn _)]; exact q)
theorem iop_and : OpR X (inplaceOp .BitAnd) (rI0 fun i j => .int (Builtin.bitAnd i j)) := opI0 fun _ _ _ _ _ _ _ q => iand_int q
theorem iop_or : OpR X (inplaceOp .BitOr) (rI0 fun i j => .int (Builtin.bitOr i j)) := opI0 fun _ _ _ _ _ _ _ q => ior_int q
theorem iop_xor : OpR X (inplaceOp .BitXor) (rI0 fun i j => .int (Builtin.bitXor i j)) := opI0 fun _ _ _ _ _ _ _ q => ixor_int q

theorem unI {f : Value → Sem Value} {g : Int → Int}
    (rule : ∀ (i : Int) (t : Tok) (s : Shared) (Q : Value → Shared → Prop) (E : Value → Shared → Prop), Q (.int (g i) s.toks) { s with toks := s.toks + 1 } → wpAny (model X.prog X.w) X.A (f (.int i t)) Q E s) :
    UnR X f (rU fun i => .int (g i)) := by
  intro pins s σ H x v Q I rx h
  obtain ⟨i, rfl, q⟩ := h
  obtain ⟨t, rfl⟩ := rx
  exact rule i t s _ _ ⟨.int (g i), H, I.tok _, ⟨_, rfl⟩, q⟩
theorem un_neg : UnR X (unaryOp .USub) (rU fun i => .int (-i)) := unI fun _ _ _ _ _ q => neg_int q
theorem un_inv : UnR X (unaryOp .Invert) (rU fun i => .int (Builtin.bitNot i)) := unI fun _ _ _ _ _ q => invert_int q

/-! ### bools among ints: n += (a < b) -/
theorem op_add_ib : OpR X (binaryOp .Add) (fun x y H Q => ∃ i k, x = .int i ∧ y = .bl k ∧ Q (.int (i + b2i k)) H) := by
  intro pins s σ H x y v u Q I rx ry h
  obtain ⟨i, k, rfl, rfl, q⟩ := h
  obtain ⟨t, rfl⟩ := rx
  cases ry
  exact add_int_bool ⟨.int (i + b2i k), H, I.tok _, ⟨_, rfl⟩, q⟩
end

/-! ### comparisons -/
/-- the scalars that == tells apart as data does -/
def scal : V → V → Bool
  | .non, .non => true | .non, .int _ => true | .int _, .non => true | .non, .bl _ => true | .bl _, .non => true | .non, .str _ => true | .str _, .non => true
  | .int _, .int _ => true | .bl _, .bl _ => true | .str _, .str _ => true | .byt _, .byt _ => true
  | .int _, .str _ => true | .str _, .int _ => true | .bl _, .str _ => true | .str _, .bl _ => true
  | _, _ => false
def rEq : R2 := fun x y H Q => scal x y = true ∧ Q (.bl (decide (x = y))) H
def rNe : R2 := fun x y H Q => scal x y = true ∧ Q (.bl (!decide (x = y))) H

theorem dec_int {i j : Int} : decide (V.int i = V.int j) = (i == j) := by
  rw [Bool.eq_iff_iff]
  simp
theorem dec_bl {i j : Bool} : decide (V.bl i = V.bl j) = (i == j) := by
  rw [Bool.eq_iff_iff]
  simp
theorem dec_str {i j : Str} : decide (V.str i = V.str j) = (i == j) := by
  rw [Bool.eq_iff_iff]
  simp
theorem dec_byt {i j : Array UInt8} : decide (V.byt i = V.byt j) = (i.toList == j.toList) := by
  rw [Bool.eq_iff_iff]
  cases i
  cases j
  simp

section
variable {X : Cx} {a b c : Expr} {ta tb tc : TE} {pos : Pos}
theorem fin_bl {pins : List (Addr × Obj)} {σ : St} {H : Hp} {s : Shared} {Q : VK} {k k' : Bool} (I : Inv X pins σ H s) (q : Q (.bl k) H) (e : k = k') : EP X pins σ Q (.bool k') s := by
  subst e
  exact ⟨.bl k, H, I, rfl, q⟩
theorem op_eq : OpR X (compareOp .Eq) rEq := by
  intro pins s σ H x y v u Q I rx ry h
  obtain ⟨hs, q⟩ := h
  cases x with
  | non =>
    cases rx
    cases y with
    | non => cases ry; exact PySem.EqNone.eq_none_none (fin_bl I q (by simp))
    | bl j => cases ry; exact PySem.EqNone.eq_none_bool (fin_bl I q (by simp))
    | int j => obtain ⟨t', rfl⟩ := ry; exact PySem.EqNone.eq_none_int (fin_bl I q (by simp))
    | str j => obtain ⟨t', rfl⟩ := ry; exact PySem.EqNone.eq_none_str (fin_bl I q (by simp))
    | _ => exact absurd (show false = true from hs) Bool.false_ne_true
  | bl i =>
    cases rx
    cases y with
    | non => cases ry; exact PySem.EqNone.eq_bool_none (fin_bl I q (by simp))
    | bl j => cases ry; exact eq_bool (fin_bl I q dec_bl)
    | str j => obtain ⟨t', rfl⟩ := ry; exact PySem.EqMixed.eq_bool_str (fin_bl I q (by simp))
    | _ => exact absurd (show false = true from hs) Bool.false_ne_true
  | int i =>
    obtain ⟨t, rfl⟩ := rx
    cases y with
    | non => cases ry; exact PySem.EqNone.eq_int_none (fin_bl I q (by simp))
    | int j => obtain ⟨t', rfl⟩ := ry; exact eq_int (fin_bl I q dec_int)
    | str j => obtain ⟨t', rfl⟩ := ry; exact PySem.EqMixed.eq_int_str (fin_bl I q (by simp))
    | _ => exact absurd (show false = true from hs) Bool.false_ne_true
  | str i =>
    obtain ⟨t, rfl⟩ := rx
    cases y with
    | non => cases ry; exact PySem.EqNone.eq_str_none (fin_bl I q (by simp))
    | bl j => cases ry; exact PySem.EqMixed.eq_str_bool (fin_bl I q (by simp))
    | int j => obtain ⟨t', rfl⟩ := ry; exact PySem.EqMixed.eq_str_int (fin_bl I q (by simp))
    | str j => obtain ⟨t', rfl⟩ := ry; exact eq_str (fin_bl I q dec_str)
    | _ => exact absurd (show false = true from hs) Bool.false_ne_true
  | byt i =>
    obtain ⟨t, rfl⟩ := rx
    cases y with
    | byt j => obtain ⟨t', rfl⟩ := ry; exact PySem.W.eq_bytes (fin_bl I q dec_byt)
    | _ => exact absurd (show false = true from hs) Bool.false_ne_true
  | _ => cases y <;> exact absurd (show false = true from hs) Bool.false_ne_true
theorem op_ne : OpR X (compareOp .NotEq) rNe := by
  intro pins s σ H x y v u Q I rx ry h
  obtain ⟨hs, q⟩ := h
  cases x with
  | non =>
    cases rx
    cases y with
    | non => cases ry; exact PySem.EqNone.ne_none_none (fin_bl I q (by simp))
    | bl j => cases ry; exact PySem.EqNone.ne_none_bool (fin_bl I q (by simp))
    | int j => obtain ⟨t', rfl⟩ := ry; exact PySem.EqNone.ne_none_int (fin_bl I q (by simp))
    | str j => obtain ⟨t', rfl⟩ := ry; exact PySem.EqNone.ne_none_str (fin_bl I q (by simp))
    | _ => exact absurd (show false = true from hs) Bool.false_ne_true
  | bl i =>
    cases rx
    cases y with
    | non => cases ry; exact PySem.EqNone.ne_bool_none (fin_bl I q (by simp))
    | bl j => cases ry; exact ne_bool (fin_bl I q (congrArg not dec_bl))
    | str j => obtain ⟨t', rfl⟩ := ry; exact PySem.EqMixed.ne_bool_str (fin_bl I q (by simp))
    | _ => exact absurd (show false = true from hs) Bool.false_ne_true
  | int i =>
    obtain ⟨t, rfl⟩ := rx
    cases y with
    | non => cases ry; exact PySem.EqNone.ne_int_none (fin_bl I q (by simp))
    | int j => obtain ⟨t', rfl⟩ := ry; exact ne_int (fin_bl I q (congrArg not dec_int))
    | str j => obtain ⟨t', rfl⟩ := ry; exact PySem.EqMixed.ne_int_str (fin_bl I q (by simp))
    | _ => exact absurd (show false = true from hs) Bool.false_ne_true
  | str i =>
    obtain ⟨t, rfl⟩ := rx
    cases y with
    | non => cases ry; exact PySem.EqNone.ne_str_none (fin_bl I q (by simp))
    | bl j => cases ry; exact PySem.EqMixed.ne_str_bool (fin_bl I q (by simp))
    | int j => obtain ⟨t', rfl⟩ := ry; exact PySem.EqMixed.ne_str_int (fin_bl I q (by simp))
    | str j => obtain ⟨t', rfl⟩ := ry; exact ne_str (fin_bl I q (congrArg not dec_str))
    | _ => exact absurd (show false = true from hs) Bool.false_ne_true
  | byt i =>
    obtain ⟨t, rfl⟩ := rx
    cases y with
    | byt j => obtain ⟨t', rfl⟩ := ry; exact PySem.W.ne_bytes (fin_bl I q (congrArg not dec_byt))
    | _ => exact absurd (show false = true from hs) Bool.false_ne_true
  | _ => cases y <;> exact absurd (show false = true from hs) Bool.false_ne_true

theorem op_lt : OpR X (compareOp .Lt) (rI0 fun i j => .bl (decide (i < j))) := opB0 fun _ _ _ _ _ _ _ q => lt_int q
theorem op_le : OpR X (compareOp .LtE) (rI0 fun i j => .bl (decide (i ≤ j))) := opB0 fun _ _ _ _ _ _ _ q => le_int q
theorem op_gt : OpR X (compareOp .Gt) (rI0 fun i j => .bl (decide (j < i))) := opB0 fun _ _ _ _ _ _ _ q => gt_int q
theorem op_ge : OpR X (compareOp .GtE) (rI0 fun i j => .bl (decide (j ≤ i))) := opB0 fun _ _ _ _ _ _ _ q => ge_int q
theorem op_lt_str : OpR X (compareOp .Lt) (fun x y H Q => ∃ i j, x = .str i ∧ y = .str j ∧ Q (.bl (decide (i.cps.toList < j.cps.toList))) H) := by
  intro pins s σ H x y v u Q I rx ry h
  obtain ⟨i, j, rfl, rfl, q⟩ := h
  obtain ⟨t, rfl⟩ := rx
  obtain ⟨t', rfl⟩ := ry
  exact lt_str (fin_bl I q rfl)
/-- the one string within the other -/
theorem op_in_str : OpR X (compareOp .In) (fun x y H Q => ∃ i j, x = .str i ∧ y = .str j ∧ Q (.bl (!(Builtin.Str.occurrences j i 0 j.length 1).isEmpty)) H) := by
  intro pins s σ H x y v u Q I rx ry h
  obtain ⟨i, j, rfl, rfl, q⟩ := h
  obtain ⟨t, rfl⟩ := rx
  obtain ⟨t', rfl⟩ := ry
  exact in_str (fin_bl I q rfl)

/-- is None, is not None: the right side a value none -/
theorem op_isN : OpR X (compareOp .Is) (fun x y H Q => y = .non ∧ Q (.bl (decide (x = .non))) H) := by
  intro pins s σ H x y v u Q I rx ry h
  obtain ⟨rfl, q⟩ := h
  cases ry
  refine is_none_gen (fin_bl I q ?_)
  cases x <;> first
    | (cases rx; rfl)
    | (obtain ⟨t, rfl⟩ := rx; rfl)
theorem op_notN : OpR X (compareOp .IsNot) (fun x y H Q => y = .non ∧ Q (.bl (!decide (x = .non))) H) := by
  intro pins s σ H x y v u Q I rx ry h
  obtain ⟨rfl, q⟩ := h
  cases ry
  refine isnot_none_gen (fin_bl I q ?_)
  cases x <;> first
    | (cases rx; rfl)
    | (obtain ⟨t, rfl⟩ := rx; rfl)

theorem op_notin_str : OpR X (compareOp .NotIn) (fun x y H Q => ∃ i j, x = .str i ∧ y = .str j ∧ Q (.bl (!(!(Builtin.Str.occurrences j i 0 j.length 1).isEmpty))) H) := by
  intro pins s σ H x y v u Q I rx ry h
  obtain ⟨i, j, rfl, rfl, q⟩ := h
  obtain ⟨t, rfl⟩ := rx
  obtain ⟨t', rfl⟩ := ry
  exact notIn_str (fin_bl I q rfl)
/-- is, is not of two objects that are tracked lists or instances -/
def isObj : HO → Bool
  | .lst _ => true
  | .ins _ _ _ => true
  | _ => false
theorem obj_there {pins : List (Addr × Obj)} {s : Shared} {σ : St} {H : Hp} {a : Addr} {o : HO} (I : Inv X pins σ H s) (h : H a = some o) (p : isObj o = true) : ∃ ob, s.heap.get? a = some ob ∧ ob.cls ≠ .type "tuple" := by
  cases o with
  | lst xs =>
    obtain ⟨_, its, n, _, e⟩ : xs.length ≤ sizeLine ∧ ∃ (its : List Value) (n : Nat), Vals xs its ∧ s.heap.get? a = some { cls := .type "list", data := .seq its.toArray n } := I.hok a _ h
    exact ⟨_, e, (by show Value.type "list" ≠ .type "tuple"; decide +kernel)⟩
  | ins C dx fs =>
    have x := I.hok a _ h
    obtain ⟨_, _, _, e, _⟩ := x
    exact ⟨_, e, (by show Value.ref C ≠ .type "tuple"; exact fun z => by cases z)⟩
  | _ => exact absurd (show false = true from p) Bool.false_ne_true
theorem op_is_ref : OpR X (compareOp .Is) (fun x y H Q => ∃ a b oa ob, x = .ref a ∧ y = .ref b ∧ H a = some oa ∧ isObj oa = true ∧ H b = some ob ∧ isObj ob = true ∧ Q (.bl (decide (a = b))) H) := by
  intro pins s σ H x y v u Q I rx ry h
  obtain ⟨a, b, oa, ob, rfl, rfl, ha, pa, hb, pb, q⟩ := h
  cases rx
  cases ry
  obtain ⟨o1, e1, n1⟩ := obj_there I ha pa
  obtain ⟨o2, e2, _⟩ := obj_there I hb pb
  by_cases z : a = b
  · subst z
    exact wpAny_is_ref_self (fin_bl I q (by simp))
  · exact wpAny_is_ref_other z e1 e2 n1 (fin_bl I q (by simp [z]))
theorem op_isnot_ref : OpR X (compareOp .IsNot) (fun x y H Q => ∃ a b oa ob, x = .ref a ∧ y = .ref b ∧ H a = some oa ∧ isObj oa = true ∧ H b = some ob ∧ isObj ob = true ∧ Q (.bl (!decide (a = b))) H) := by
  intro pins s σ H x y v u Q I rx ry h
  obtain ⟨a, b, oa, ob, rfl, rfl, ha, pa, hb, pb, q⟩ := h
  cases rx
  cases ry
  obtain ⟨o1, e1, n1⟩ := obj_there I ha pa
  obtain ⟨o2, e2, _⟩ := obj_there I hb pb
  by_cases z : a = b
  · subst z
    exact wpAny_isNot_ref_self (fin_bl I q (by simp))
  · exact wpAny_isNot_ref_other z e1 e2 n1 (fin_bl I q (by simp [z]))

/-- two rules for one operation: by cases -/
theorem OpR.or {f : Value → Value → Sem Value} {r r' : R2} (h : OpR X f r) (h' : OpR X f r') : OpR X f (fun x y H Q => r x y H Q ∨ r' x y H Q) := by
  intro pins s σ H x y v u Q I rx ry q
  rcases q with q | q
  · exact h pins s σ H x y v u Q I rx ry q
  · exact h' pins s σ H x y v u Q I rx ry q

theorem nomark (b : Expr) {op : CmpOp} (h : op ≠ .In := by decide) (h2 : op ≠ .NotIn := by decide) : behindInMarks op b = false := by
  have e1 : (op == CmpOp.In) = false := by cases op <;> first | rfl | exact absurd rfl h
  have e2 : (op == CmpOp.NotIn) = false := by cases op <;> first | rfl | exact absurd rfl h2
  cases b <;> simp [behindInMarks, e1, e2]
/-- a comparison as a value; hm: nomark b, or (for in, not in) by with_unfolding_all rfl -/
theorem pe_cmpR {op : CmpOp} {r : R2} (ho : OpR X (compareOp op) r) (ha : PE X a ta) (hb : PE X b tb) (hm : behindInMarks op b = false) : PE X (.Compare a [op] [b] pos) (tOp r ta tb) := by
  intro pins s σ H Q I h
  exact wpAny_Compare1 (binT ha hb I h fun v u s2 x y H2 I2 rx ry q => ho pins s2 σ H2 x y v u Q I2 rx ry q) hm
/-- a reading of a value as a test -/
def tTest (t : TE) : TT := fun σ H Q => t σ H fun x H' => ∃ k, x = .bl k ∧ Q k H'
theorem pt_cmpR {op : CmpOp} {r : R2} (ho : OpR X (compareOp op) r) (ha : PE X a ta) (hb : PE X b tb) (hm : behindInMarks op b = false) : PT X (.Compare a [op] [b] pos) (tTest (tOp r ta tb)) := by
  intro pins s σ H Q I h
  refine wpAny_isTrue_Compare1 (thn (ha pins s σ H _ I h) fun v s1 ⟨x, H1, I1, r1, q1⟩ => thn (hb pins s1 σ H1 _ I1 q1) fun u s2 ⟨y, H2, I2, r2, q2⟩ =>
    thn (ho pins s2 σ H2 x y v u _ I2 r1 r2 q2) fun c s3 ⟨z, H3, I3, r3, k, e, q3⟩ => ?_) hm
  subst e
  cases r3
  exact wpAny_truthy_bool ⟨H3, I3, q3⟩
/-- a op1 b op2 c -/
def tChain (r r' : R2) (ta tb tc : TE) : TE := fun σ H Q => ta σ H fun x H1 => tb σ H1 fun y H2 => r x y H2 fun z H3 => ∃ k, z = .bl k ∧
  (if k = true then tc σ H3 fun w' H4 => r' y w' H4 Q else Q (.bl false) H3)
theorem pe_chain {op op' : CmpOp} {r r' : R2} (ho : OpR X (compareOp op) r) (ho' : OpR X (compareOp op') r') (ha : PE X a ta) (hb : PE X b tb) (hc : PE X c tc)
    (hm : lastMarks [op, op'] [b, c] = false := by with_unfolding_all rfl) : PE X (.Compare a [op, op'] [b, c] pos) (tChain r r' ta tb tc) := by
  intro pins s σ H Q I h
  refine Compare_chain (thn (ha pins s σ H _ I h) fun v s1 ⟨x, H1, I1, r1, q1⟩ => chain_link (thn (hb pins s1 σ H1 _ I1 q1) fun u s2 ⟨y, H2, I2, r2, q2⟩ =>
    thn (ho pins s2 σ H2 x y v u _ I2 r1 r2 q2) fun d s3 ⟨z, H3, I3, r3, k, e, q3⟩ => ?_)) hm
  subst e
  cases r3
  refine wpAny_truthy_bool ?_
  cases k with
  | false => exact ite_ff ⟨.bl false, H3, I3, rfl, q3⟩
  | true => exact ite_tt (chain_last (thn (hc pins s3 σ H3 _ I3 q3) fun w' s4 ⟨z', H4, I4, r4, q4⟩ => ho' pins s4 σ H4 y z' u w' Q I4 r2 r4 q4))
theorem pt_chain {op op' : CmpOp} {r r' : R2} (ho : OpR X (compareOp op) r) (ho' : OpR X (compareOp op') r') (ha : PE X a ta) (hb : PE X b tb) (hc : PE X c tc)
    (hm : lastMarks [op, op'] [b, c] = false := by with_unfolding_all rfl) : PT X (.Compare a [op, op'] [b, c] pos) (tTest (tChain r r' ta tb tc)) := by
  intro pins s σ H Q I h
  refine isTrue_chain (thn (ha pins s σ H _ I h) fun v s1 ⟨x, H1, I1, r1, q1⟩ => test_link (thn (hb pins s1 σ H1 _ I1 q1) fun u s2 ⟨y, H2, I2, r2, q2⟩ =>
    thn (ho pins s2 σ H2 x y v u _ I2 r1 r2 q2) fun d s3 ⟨z, H3, I3, r3, k, e, q3⟩ => ?_)) hm
  subst e
  cases r3
  refine wpAny_truthy_bool ?_
  cases k with
  | false =>
    obtain ⟨k', e', q'⟩ := q3
    cases e'
    exact ite_ff ⟨H3, I3, q'⟩
  | true =>
    refine ite_tt (test_last (thn (hc pins s3 σ H3 _ I3 q3) fun w' s4 ⟨z', H4, I4, r4, q4⟩ => thn (ho' pins s4 σ H4 y z' u w' _ I4 r2 r4 q4) fun d' s5 ⟨z2, H5, I5, r5, k2, e2, q5⟩ => ?_))
    subst e2
    cases r5
    exact wpAny_truthy_bool ⟨H5, I5, q5⟩

/-! ### truth -/
/-- a value's truth by the abstract heap -/
def TruV (K : PySem.W.Frag) (x : V) (H : Hp) (k : Bool) : Prop :=
  match x with
  | .non => k = false
  | .bl b => k = b
  | .int i => k = (i != 0)
  | .str y => y.length ≤ sizeLine ∧ k = ((y.length : Int) != 0)
  | .byt y => y.size ≤ sizeLine ∧ k = ((y.size : Int) != 0)
  | .ref p => (∃ xs, SqL K H p xs ∧ k = !xs.isEmpty) ∨ (∃ xs, SqT K H p xs ∧ k = !xs.isEmpty) ∨ ∃ kvs, H p = some (.dK kvs) ∧ k = !kvs.isEmpty
  | _ => False
theorem isEmpty_kv {κ : Type} {kvs : List (κ × V)} {vs : List (κ × Value)} (r : KV kvs vs) : (!vs.isEmpty) = !kvs.isEmpty := by
  cases r <;> rfl
theorem isEmpty_of {xs : List V} {its : List Value} (r : Vals xs its) : (!its.toArray.isEmpty) = !xs.isEmpty := by
  cases r <;> simp
theorem line63 : (sizeLine : Nat) < 2 ^ 63 := by rw [sizeLine_eq]; decide
theorem tru_ok : TruR X (fun x H Q => ∃ k, TruV X.K x H k ∧ Q k H) := by
  intro pins s σ H x v Q I rx h
  obtain ⟨k, e, q⟩ := h
  have hl := line63
  have hs : sizeLine = 16777216 := sizeLine_eq
  cases x with
  | non =>
    cases rx
    have e' : k = false := e
    subst e'
    exact truthy_none ⟨H, I, q⟩
  | bl b =>
    cases rx
    have e' : k = b := e
    subst e'
    exact wpAny_truthy_bool ⟨H, I, q⟩
  | int i =>
    obtain ⟨t, rfl⟩ := rx
    have e' : k = (i != 0) := e
    subst e'
    exact PySem.P.truthy_int ⟨H, I, q⟩
  | str y =>
    obtain ⟨t, rfl⟩ := rx
    obtain ⟨hy, e'⟩ : y.length ≤ sizeLine ∧ k = ((y.length : Int) != 0) := e
    subst e'
    exact PySem.P.truthy_str (by omega) ⟨H, I.tok _, q⟩
  | byt y =>
    obtain ⟨t, rfl⟩ := rx
    obtain ⟨hy, e'⟩ : y.size ≤ sizeLine ∧ k = ((y.size : Int) != 0) := e
    subst e'
    exact PySem.W.truthy_bytes (by omega) ⟨H, I.tok _, q⟩
  | ref p =>
    cases rx
    have e' : (∃ xs, SqL X.K H p xs ∧ k = !xs.isEmpty) ∨ (∃ xs, SqT X.K H p xs ∧ k = !xs.isEmpty) ∨ ∃ kvs, H p = some (.dK kvs) ∧ k = !kvs.isEmpty := e
    rcases e' with ⟨xs, hx, e'⟩ | ⟨xs, hx, e'⟩ | ⟨kvs, hx, e'⟩
    · subst e'
      obtain ⟨its, r, pl, hz⟩ := I.list hx
      have hlen := r.length
      exact wpAny_truthy_list pl.isList (by simp only [List.size_toArray]; omega) ⟨H, I.tok _, by rw [isEmpty_of r]; exact q⟩
    · subst e'
      obtain ⟨its, r, pl, hz⟩ := I.tuple hx
      have hlen := r.length
      exact truthy_tuple pl (by simp only [List.size_toArray]; omega) ⟨H, I.tok _, by rw [isEmpty_of r]; exact q⟩
    · subst e'
      obtain ⟨hz, hS, vs, r, m⟩ : kvs.length ≤ sizeLine ∧ (p == sysModules) = false ∧ ∃ vs, KV kvs vs ∧ s.heap.DictOf (mixKind X.prog X.w) p vs := I.hok p _ hx
      have hlen : kvs.length = vs.length := Paired.length r
      exact wpAny_truthy_dict hS m (by omega) ⟨H, I.tok _, by rw [isEmpty_kv r]; exact q⟩
  | _ => exact (show False from e).elim
/-- any expression whose test is its value's truth (a name, a call, a subscript, a field ..: he by fun _ => rfl) -/
theorem pt_truth (ha : PE X a ta) (he : ∀ whole, isTrue a X.env whole = (do let v ← whole; standAt a.pos; holding [v] (truthy v))) :
    PT X a (fun σ H Q => ta σ H fun x H' => ∃ k, TruV X.K x H' k ∧ Q k H') := by
  intro pins s σ H Q I h
  exact isTrue_plain (thn (ha pins s σ H _ I h) fun v s1 ⟨x, H1, I1, r1, q1⟩ => tru_ok pins s1 σ H1 x v Q I1 r1 q1) (he _)

/-! ### strs and bytes -/
theorem pe_byt {x : List UInt8} {k : Nat} : PE X (.Constant (.bytes x) k pos) (fun _ H Q => Q (.byt x.toArray) H) := fun _ _ _ H _ I h => PySem.W.Constant_bytes ⟨.byt x.toArray, H, I.tok _, ⟨_, rfl⟩, h⟩
theorem op_add_str : OpR X (binaryOp .Add) (fun x y H Q => ∃ i j, x = .str i ∧ y = .str j ∧ i.length + j.length ≤ sizeLine ∧ Q (.str (i ++ j)) H) := by
  intro pins s σ H x y v u Q I rx ry h
  obtain ⟨i, j, rfl, rfl, hz, q⟩ := h
  obtain ⟨t, rfl⟩ := rx
  obtain ⟨t', rfl⟩ := ry
  exact add_str (fun t' tk => ⟨.str (i ++ j), H, I.tok _, ⟨_, rfl⟩, q⟩) hz
theorem iop_add_str : OpR X (inplaceOp .Add) (fun x y H Q => ∃ i j, x = .str i ∧ y = .str j ∧ i.length + j.length ≤ sizeLine ∧ Q (.str (i ++ j)) H) := by
  intro pins s σ H x y v u Q I rx ry h
  obtain ⟨i, j, rfl, rfl, hz, q⟩ := h
  obtain ⟨t, rfl⟩ := rx
  obtain ⟨t', rfl⟩ := ry
  exact iadd_str (fun t' tk => ⟨.str (i ++ j), H, I.tok _, ⟨_, rfl⟩, q⟩) hz
theorem op_add_byt : OpR X (binaryOp .Add) (fun x y H Q => ∃ i j, x = .byt i ∧ y = .byt j ∧ i.size + j.size ≤ 16777216 ∧ Q (.byt (i ++ j)) H) := by
  intro pins s σ H x y v u Q I rx ry h
  obtain ⟨i, j, rfl, rfl, hz, q⟩ := h
  obtain ⟨t, rfl⟩ := rx
  obtain ⟨t', rfl⟩ := ry
  exact PySem.W.KBy.add_bytes hz (fun t' tk => ⟨.byt (i ++ j), H, I.tok _, ⟨_, rfl⟩, q⟩)

def PlainIxT (b : Expr) : Prop := ∀ o i, subscripted b false o i = operate [o, i] (getItem o i)
/-- s[i], 0 ≤ i < len -/
theorem pe_item_str (ha : PE X a ta) (hb : PE X b tb) (hs : PlainIxT b) :
    PE X (.Subscript a b pos) (tOp (fun x y H Q => ∃ z i c, x = .str z ∧ y = .int i ∧ 0 ≤ i ∧ i < 2 ^ 63 ∧ i < z.length ∧ z.cps[i.toNat]? = some c ∧ Q (.str ⟨#[c]⟩) H) ta tb) := by
  intro pins s σ H Q I h
  refine Subscript_ (binT ha hb I h fun v u s2 x y H2 I2 rx ry q => ?_)
  obtain ⟨z, i, c, rfl, rfl, h0, h63, h1, hc, q⟩ := q
  obtain ⟨t, rfl⟩ := rx
  obtain ⟨t', rfl⟩ := ry
  have e : seqIndex? i z.length = some i.toNat := PySem.StrLaws.seqIndex_nonneg h0 h1
  exact tail_any (typeIs_str s2 z t) slot_str_getitem.lookup (getItem_str (c := c) (by
    have e1 : decide (i < -(2 ^ 63 : Int)) = false := decide_eq_false (by omega)
    have e2 : decide (i ≥ 2 ^ 63) = false := decide_eq_false (by omega)
    rw [e1, e2] <;> rfl) (by rw [e]; exact hc) ⟨.str ⟨#[c]⟩, H2, I2.tok _, ⟨_, rfl⟩, q⟩) (hs _ _)
/-- b[i], 0 ≤ i < len -/
theorem pe_item_byt (ha : PE X a ta) (hb : PE X b tb) (hs : PlainIxT b) :
    PE X (.Subscript a b pos) (tOp (fun x y H Q => ∃ (z : List UInt8) (i : Int), x = .byt z.toArray ∧ y = .int i ∧ z.length ≤ sizeLine ∧ 0 ≤ i ∧ i < z.length ∧ Q (.int ((z.getD i.toNat 0).toNat : Nat)) H) ta tb) := by
  intro pins s σ H Q I h
  refine Subscript_ (binT ha hb I h fun v u s2 x y H2 I2 rx ry q => ?_)
  obtain ⟨z, i, rfl, rfl, hz, h0, h1, q⟩ := q
  obtain ⟨t, rfl⟩ := rx
  obtain ⟨t', rfl⟩ := ry
  have hl : sizeLine = 16777216 := sizeLine_eq
  exact tail_any (PySem.W.typeIs_bytes s2 z.toArray t) PySem.W.FB.slot_bytes_getitem.lookup (PySem.W.getItem_bytes (by omega) h0 h1 ⟨.int ((z.getD i.toNat 0).toNat : Nat), H2, I2.tok _, ⟨_, rfl⟩, q⟩) (hs _ _)

/-! ### scalar builtins, by CallR -/
theorem vals1 {x : V} {us : List Value} (r : Vals [x] us) : ∃ u, us = [u] ∧ RelV x u := by
  cases r with
  | cons r1 r2 => cases r2; exact ⟨_, rfl, r1⟩
theorem vals2 {x y : V} {us : List Value} (r : Vals [x, y] us) : ∃ u w', us = [u, w'] ∧ RelV x u ∧ RelV y w' := by
  cases r with
  | cons r1 r2 =>
    cases r2 with
    | cons r3 r4 => cases r4; exact ⟨_, _, rfl, r1, r3⟩
theorem call_abs : CallR X (.builtin "abs") (fun xs H Q => ∃ i, xs = [.int i] ∧ Q (.int (if i < 0 then -i else i)) H) := by
  intro pins s σ H xs us Q I r h
  obtain ⟨i, rfl, q⟩ := h
  obtain ⟨u, rfl, t, rfl⟩ := vals1 r
  exact call_abs_int fun u tk => ⟨.int (if i < 0 then -i else i), H, I.tok _, ⟨_, rfl⟩, q⟩
theorem call_max2 (hc : X.calm = true) : CallR X (.builtin "max") (fun xs H Q => ∃ i j, xs = [.int i, .int j] ∧ Q (.int (if j > i then j else i)) H) := by
  intro pins s σ H xs us Q I r h
  obtain ⟨i, j, rfl, q⟩ := h
  obtain ⟨u, w', rfl, ⟨t, rfl⟩, ⟨t', rfl⟩⟩ := vals2 r
  refine max_two_ints (I.ok.hd hc) fun h' tk k => ⟨_, H, I.kept k, ?_, q⟩
  by_cases hj : j > i
  · rw [if_pos hj, if_pos hj]; exact ⟨_, rfl⟩
  · rw [if_neg hj, if_neg hj]; exact ⟨_, rfl⟩
theorem call_min2 (hc : X.calm = true) : CallR X (.builtin "min") (fun xs H Q => ∃ i j, xs = [.int i, .int j] ∧ Q (.int (if j < i then j else i)) H) := by
  intro pins s σ H xs us Q I r h
  obtain ⟨i, j, rfl, q⟩ := h
  obtain ⟨u, w', rfl, ⟨t, rfl⟩, ⟨t', rfl⟩⟩ := vals2 r
  refine min_two_ints (I.ok.hd hc) fun h' tk k => ⟨_, H, I.kept k, ?_, q⟩
  by_cases hj : j < i
  · rw [if_pos hj, if_pos hj]; exact ⟨_, rfl⟩
  · rw [if_neg hj, if_neg hj]; exact ⟨_, rfl⟩
theorem call_int1 : CallR X (.type "int") (fun xs H Q => (∃ i, xs = [.int i] ∧ Q (.int i) H) ∨ ∃ k, xs = [.bl k] ∧ Q (.int (if k then 1 else 0)) H) := by
  intro pins s σ H xs us Q I r h
  rcases h with ⟨i, rfl, q⟩ | ⟨k, rfl, q⟩
  · obtain ⟨u, rfl, t, rfl⟩ := vals1 r
    exact call_int_int ⟨.int i, H, I, ⟨_, rfl⟩, q⟩
  · obtain ⟨u, rfl, r1⟩ := vals1 r
    cases r1
    exact call_int_bool ⟨.int (if k then 1 else 0), H, I.tok _, ⟨_, rfl⟩, q⟩
theorem call_bool1 : CallR X (.type "bool") (fun xs H Q => (∃ i, xs = [.int i] ∧ Q (.bl (i != 0)) H) ∨ ∃ k, xs = [.bl k] ∧ Q (.bl k) H) := by
  intro pins s σ H xs us Q I r h
  rcases h with ⟨i, rfl, q⟩ | ⟨k, rfl, q⟩
  · obtain ⟨u, rfl, t, rfl⟩ := vals1 r
    exact call_bool_int ⟨.bl (i != 0), H, I, rfl, q⟩
  · obtain ⟨u, rfl, r1⟩ := vals1 r
    cases r1
    exact call_bool_bool ⟨.bl k, H, I, rfl, q⟩
theorem call_str_int : CallR X (.type "str") (fun xs H Q => ∃ i, xs = [.int i] ∧ i.natAbs.log2 < 1920 ∧ Q (.str (toString i)) H) := by
  intro pins s σ H xs us Q I r h
  obtain ⟨i, rfl, hz, q⟩ := h
  obtain ⟨u, rfl, t, rfl⟩ := vals1 r
  exact PySem.P.str_of_int hz ⟨.str _, H, I.tok _, ⟨_, rfl⟩, q⟩
theorem call_ord : CallR X (.builtin "ord") (fun xs H Q => ∃ x, xs = [.str x] ∧ x.length = 1 ∧ Q (.int (x.cps.getD 0 0 : Nat)) H) := by
  intro pins s σ H xs us Q I r h
  obtain ⟨x, rfl, hz, q⟩ := h
  obtain ⟨u, rfl, t, rfl⟩ := vals1 r
  exact ord_of_one hz ⟨.int _, H, I.tok _, ⟨_, rfl⟩, q⟩
theorem call_chr : CallR X (.builtin "chr") (fun xs H Q => ∃ i, xs = [.int i] ∧ 0 ≤ i ∧ i ≤ 1114111 ∧ Q (.str ⟨#[i.toNat]⟩) H) := by
  intro pins s σ H xs us Q I r h
  obtain ⟨i, rfl, h0, h1, q⟩ := h
  obtain ⟨u, rfl, t, rfl⟩ := vals1 r
  exact chr_of_range h0 h1 ⟨.str _, H, I.tok _, ⟨_, rfl⟩, q⟩
/-- len of a str, a bytes, a list, a tuple -/
def LenV (K : PySem.W.Frag) (x : V) (H : Hp) (n : Nat) : Prop :=
  match x with
  | .str y => y.length ≤ sizeLine ∧ n = y.length
  | .byt y => y.size ≤ sizeLine ∧ n = y.size
  | .ref p => (∃ xs, SqL K H p xs ∧ n = xs.length) ∨ ∃ xs, SqT K H p xs ∧ n = xs.length
  | _ => False
theorem call_len : CallR X (.builtin "len") (fun xs H Q => ∃ x n, xs = [x] ∧ LenV X.K x H n ∧ Q (.int n) H) := by
  intro pins s σ H xs us Q I r h
  obtain ⟨x, n, rfl, e, q⟩ := h
  obtain ⟨u, rfl, rx⟩ := vals1 r
  have hl := line63
  have hs : sizeLine = 16777216 := sizeLine_eq
  cases x with
  | str y =>
    obtain ⟨t, rfl⟩ := rx
    obtain ⟨hy, e'⟩ : y.length ≤ sizeLine ∧ n = y.length := e
    subst e'
    exact len_str (by omega) ⟨.int _, H, I.tok _, ⟨_, rfl⟩, q⟩
  | byt y =>
    obtain ⟨t, rfl⟩ := rx
    obtain ⟨hy, e'⟩ : y.size ≤ sizeLine ∧ n = y.size := e
    subst e'
    exact PySem.W.len_bytes (by omega) ⟨.int _, H, I.tok _, ⟨_, rfl⟩, q⟩
  | ref p =>
    cases rx
    have e' : (∃ xs, SqL X.K H p xs ∧ n = xs.length) ∨ ∃ xs, SqT X.K H p xs ∧ n = xs.length := e
    rcases e' with ⟨xs, hx, e'⟩ | ⟨xs, hx, e'⟩
    · subst e'
      obtain ⟨its, r', pl, hz⟩ := I.list hx
      have hlen := r'.length
      exact Calls.call_len_list pl.isList (by simp only [List.size_toArray]; omega) ⟨.int xs.length, H, I.tok _, ⟨_, by simp only [List.size_toArray]; rw [hlen]⟩, q⟩
    · subst e'
      obtain ⟨its, r', pl, hz⟩ := I.tuple hx
      have hlen := r'.length
      exact len_tuple pl (by simp only [List.size_toArray]; omega) ⟨.int xs.length, H, I.tok _, ⟨_, by simp only [List.size_toArray]; rw [hlen]⟩, q⟩
  | _ => exact (show False from e).elim
/-- divmod: a new tuple -/
theorem call_divmod : CallR X (.builtin "divmod") (fun xs H Q => ∃ i j, xs = [.int i, .int j] ∧ CDiv i j ∧ ∀ p, H p = none → Q (.ref p) (upd H p (.tup [.int (i / j), .int (i % j)]))) := by
  intro pins s σ H xs us Q I r h
  obtain ⟨i, j, rfl, ⟨h1, h2⟩, q⟩ := h
  obtain ⟨u, w', rfl, ⟨t, rfl⟩, ⟨t', rfl⟩⟩ := vals2 r
  refine divmod_int (by omega) ?_ (.inl (PyProof.noPylong_small (by omega)))
  rw [Int.fdiv_eq_ediv_of_nonneg i (by omega), Int.fmod_eq_emod_of_nonneg i (by omega)]
  have hn : H s.heap.objs.size = none := I.hok.fresh (Nat.le_refl _)
  refine ⟨.ref s.heap.objs.size, _, ?_, rfl, q _ hn⟩
  refine I.laid (fun b o e => Heap.get?_push_of_some _ e) (Nat.le_refl _) ⟨by simp only [List.length_cons, List.length_nil]; rw [sizeLine_eq]; decide, [.int (i / j) s.toks, .int (i % j) (s.toks + 1)], .cons ⟨_, rfl⟩ (.cons ⟨_, rfl⟩ .nil), ?_⟩
  exact ⟨_, Heap.get?_push_size s.heap rfl, rfl, 0, rfl⟩
end
end L2

namespace L2
open PySem PySem.Spec PyProof.Rows

/-! ### an instance, its attributes a map -/
structure ObjM (h : Heap) (x dx C : Addr) (mA : Str → Option Value) : Prop where
  obj : h.get? x = some (PySem.W.instObj C dx)
  ns : h.Ns1 dx mA
  ne : dx ≠ x

theorem lookIn_ns {h : Heap} {dx : Addr} {mA : Str → Option Value} (n : h.Ns1 dx mA) : ∃ od, h.get? dx = some od ∧ ∀ name, PySem.W.lookIn name od = some (mA name) := by
  obtain ⟨o, es, ep, ho, hd, hk, _, hm⟩ := n
  refine ⟨o, ho, fun name => ?_⟩
  have e := hm name
  unfold nsFind findBy at e
  rw [← Array.find?_toList] at e
  unfold PySem.W.lookIn
  rw [hd]
  dsimp only
  split
  · rename_i y q
    rw [q] at e
    exact congrArg some e
  · rename_i q
    rw [q] at e
    have a : es.toList.any (·.refKey) = false := by
      rw [List.any_eq_false]
      intro y hy
      obtain ⟨z, t, hkey⟩ := hk y (Array.mem_toList_iff.mp hy)
      simp [DictEntry.refKey, hkey]
    have a' : ¬ es.toList.any (·.refKey) = true := by rw [a]; exact Bool.false_ne_true
    rw [if_neg a']
    exact congrArg some e

theorem ObjM.look {h : Heap} {x dx C : Addr} {mA : Str → Option Value} (I : ObjM h x dx C mA) : ∃ od, PySem.W.InstAt h x (PySem.W.instObj C dx) C (some od) ∧ ∀ name, PySem.W.lookIn name od = some (mA name) :=
  let ⟨od, ho, hl⟩ := lookIn_ns I.ns
  ⟨od, ⟨I.obj, rfl, rfl, ho⟩, hl⟩

section
variable {prog : Program} {w : World} {A : Around} {E : Value → Shared → Prop} {s : Shared} {K : PySem.W.Frag} {x dx C f : Addr} {mA : Str → Option Value} {name : Str} {v : Value}

theorem get_map {expr : Bool} {Q : Value → Shared → Prop} (X : K.In s.heap) (I : ObjM s.heap x dx C mA) (hg : PySem.W.plainGet K C name = true) (hh : PySem.W.hasDictIn K C = true)
    (ha : PySem.W.findIn K (.ref C) name = some none) (hv : mA name = some v) (hv' : PySem.W.handedIn v = true) (h : Q v { s with toks := s.toks + 1 }) :
    wpAny (model prog w) A (getAttr (.ref x) name expr) Q E s := by
  obtain ⟨od, J, hl⟩ := I.look
  exact PySem.W.get_value X J (PySem.W.plainGet_of hg).1 (PySem.W.findObj_own hh ha rfl (by rw [hl, hv])) hv' h

theorem get_const {expr : Bool} {a : Value} {Q : Value → Shared → Prop} (X : K.In s.heap) (I : ObjM s.heap x dx C mA) (hg : PySem.W.plainGet K C name = true) (hh : PySem.W.hasDictIn K C = true)
    (ha : PySem.W.findIn K (.ref C) name = some (some a)) (hn : PySem.W.specialIn K a "__get__" = some none) (hc : PySem.W.copiedNames.contains name = false) (hv : mA name = none) (hv' : PySem.W.handedIn a = true)
    (h : Q a { s with toks := s.toks + 1 }) : wpAny (model prog w) A (getAttr (.ref x) name expr) Q E s := by
  obtain ⟨od, J, hl⟩ := I.look
  exact PySem.W.get_value X J (PySem.W.plainGet_of hg).1 (PySem.W.findObj_cls hh ha hn hv' hc (by rw [hl, hv])) hv' h

theorem get_meth {pl : Sem Bool} {Q : Value × List Value → Shared → Prop} (X : K.In s.heap) (I : ObjM s.heap x dx C mA) (hg : PySem.W.plainGet K C name = true)
    (hf : PySem.W.findIn K (.ref C) name = some (some (.ref f))) (ht : PySem.W.isFn K (.ref f) = true) (hv : mA name = none) (h : Q (.ref f, [.ref x]) s) :
    wpAny (model prog w) A (getMethod (.ref x) name pl) Q E s := by
  obtain ⟨od, J, hl⟩ := I.look
  exact PySem.W.method_fn X J (PySem.W.plainGet_of hg).1 (PySem.W.plainGet_of hg).2 hf (beq_iff_eq.mp ht) (by show (PySem.W.lookIn name od).map (·.isSome) = some false; rw [hl, hv]; rfl) h

theorem set_map {ns : List Str} {Q : Unit → Shared → Prop} (X : K.In s.heap) (I : ObjM s.heap x dx C mA)
    (hs : PySem.W.findIn K (.ref C) "__setattr__" = some (some (.builtin "object.__setattr__"))) (hp : PySem.W.plainOver K C = true) (ht : PySem.W.takerIn K C name = some none) (hh : PySem.W.hasDictIn K C = true)
    (hw : PySem.Within mA ns) (hsz : ns.length ≤ sizeLine)
    (h : ∀ h', ObjM h' x dx C (fun y => if y = name then some v else mA y) → Heap.SameBut dx s.heap h' → Q () { s with heap := h', toks := s.toks + 2 }) :
    wpAny (model prog w) A (setAttr (.ref x) name v) Q E s := by
  obtain ⟨od, J, hl⟩ := I.look
  refine PySem.W.set_plain X J hs (PySem.W.osa_open (s := { s with toks := s.toks + 1 }) (r := none) X J hp ht fun b => ?_)
  obtain ⟨cd, hc, hd'⟩ := PySem.W.any_some hh
  have hx : s.heap.get? x = some ⟨.ref C, some dx, .plain, #[]⟩ := I.obj
  refine wpAny_bind (wpAny_pure (wpAny_bind (wpAny_bind (wpAny_loadPart hx (wpAny_bind (PySem.W.Looks.here (s := { s with toks := s.toks + 1 }) (PySem.W.looks_clsIn X hc) ?_))))))
  rw [hd']
  refine wpAny_pure (a := some dx) (wpAny_bind (wpAny_pure (wpAny_bind ?_)))
  refine wpAny_nsSet1 (s := { s with toks := s.toks + 1 }) I.ns fun h' hn2 hs2 => ?_
  obtain ⟨oD, esD, epD, hoD, hdD, hcD⟩ := hn2.count (PySem.Within.cons name v hw)
  refine wpAny_bind (wpAny_lookBehind hoD (by rw [hdD]; exact pastItsLine_dict (Nat.le_trans hcD (by rw [List.length_cons]; omega))) ?_)
  exact wpAny_pure (h _ ⟨(hs2.2 _ (Ne.symm I.ne)).trans I.obj, hn2, I.ne⟩ hs2)

/-- C(..): the dict at the heap's end, the instance behind it; then its __init__ -/
theorem make_map {R : Result → Shared → Prop} {vs : List Value} {kw : List (Str × Value)} (X : K.In s.heap) (hm : PySem.W.makesIn K C = true)
    (hi : PySem.W.findIn K (.ref C) "__init__" = some (some (.ref f))) (hf : PySem.W.typeIn K (.ref f) = some (.type "function"))
    (h : codeAny (model prog w) (A.under (.builtin "type.__call__" ⟨.ref C :: vs, kw⟩)) (.call (.ref f) ⟨.ref (s.heap.objs.size + 1) :: vs, kw⟩) (PySem.W.InitBack (s.heap.objs.size + 1) R)
      { s with heap := (s.heap.push PySem.W.emptyDict).push (PySem.W.instObj C s.heap.objs.size) }) :
    codeAny (model prog w) A (.call (.ref C) ⟨vs, kw⟩) R s := by
  obtain ⟨hh, g, d, t, os⟩ := s
  exact PySem.W.make_core (PySem.W.makes_of X hm) (PySem.W.looks_findIn X hi) (fun self => PySem.W.bind_fn X self hf) (.inl rfl) h
/-- C() where there is no __init__ but object's -/
theorem make_map0 {R : Result → Shared → Prop} (X : K.In s.heap) (hm : PySem.W.makesIn K C = true)
    (hi : PySem.W.findIn K (.ref C) "__init__" = some (some (.builtin "object.__init__")))
    (hb : ∀ self, PySem.W.Looks (model prog w) s.heap (bindSpecial (.builtin "object.__init__") self) (.builtin "object.__init__", [self]))
    (h : codeAny (model prog w) (A.under (.builtin "type.__call__" ⟨[.ref C], []⟩)) (.call (.builtin "object.__init__") ⟨[.ref (s.heap.objs.size + 1)], []⟩) (PySem.W.InitBack (s.heap.objs.size + 1) R)
      { s with heap := (s.heap.push PySem.W.emptyDict).push (PySem.W.instObj C s.heap.objs.size) }) :
    codeAny (model prog w) A (.call (.ref C) ⟨[], []⟩) R s := by
  obtain ⟨hh, g, d, t, os⟩ := s
  exact PySem.W.make_core (PySem.W.makes_of X hm) (PySem.W.looks_findIn X hi) hb (.inr ⟨rfl, rfl⟩) h
end

/-! ### the attributes as a list of pairs -/
def putF (f : Str) (v : V) : List (Str × V) → List (Str × V)
  | [] => [(f, v)]
  | (g, x) :: r => if g = f then (g, v) :: r else (g, x) :: putF f v r
theorem lookup_putF (f g : Str) (v : V) : ∀ fs : List (Str × V), (putF f v fs).lookup g = if g = f then some v else fs.lookup g
  | [] => by
    show List.lookup g [(f, v)] = _
    by_cases h : g = f
    · have hb : (g == f) = true := beq_iff_eq.mpr h
      simp only [List.lookup, hb, if_pos h]
    · have hb : (g == f) = false := beq_eq_false_iff_ne.mpr h
      simp only [List.lookup, hb, if_neg h]
  | (k, x) :: r => by
    have ih := lookup_putF f g v r
    rw [show putF f v ((k, x) :: r) = (if k = f then (k, v) :: r else (k, x) :: putF f v r) from rfl]
    by_cases hk : k = f
    · rw [if_pos hk]
      by_cases h : g = k
      · have hb : (g == k) = true := beq_iff_eq.mpr h
        simp only [List.lookup, hb, if_pos (h.trans hk)]
      · have hb : (g == k) = false := beq_eq_false_iff_ne.mpr h
        simp only [List.lookup, hb, if_neg (fun e : g = f => h (e.trans hk.symm))]
    · rw [if_neg hk]
      by_cases h : g = k
      · have hb : (g == k) = true := beq_iff_eq.mpr h
        simp only [List.lookup, hb, if_neg (fun e : g = f => hk (h.symm.trans e))]
      · have hb : (g == k) = false := beq_eq_false_iff_ne.mpr h
        simp only [List.lookup, hb]
        exact ih
theorem keys_putF (f : Str) (v : V) : ∀ fs : List (Str × V), f ∈ (putF f v fs).map (·.1) ∧ ∀ g, g ∈ fs.map (·.1) → g ∈ (putF f v fs).map (·.1)
  | [] => ⟨by simp [putF], fun g h => by simp at h⟩
  | (k, x) :: r => by
    obtain ⟨i1, i2⟩ := keys_putF f v r
    rw [show putF f v ((k, x) :: r) = (if k = f then (k, v) :: r else (k, x) :: putF f v r) from rfl]
    by_cases hk : k = f
    · rw [if_pos hk]
      subst hk
      exact ⟨by simp, fun g h => by simpa using h⟩
    · rw [if_neg hk]
      refine ⟨?_, fun g h => ?_⟩
      · rw [List.map_cons]
        exact List.mem_cons_of_mem _ i1
      · rw [List.map_cons] at h ⊢
        rcases List.mem_cons.mp h with e | e
        · exact List.mem_cons.mpr (.inl e)
        · exact List.mem_cons_of_mem _ (i2 g e)
theorem length_putF (f : Str) (v : V) : ∀ fs : List (Str × V), (putF f v fs).length ≤ fs.length + 1
  | [] => by simp [putF]
  | (k, x) :: r => by
    have ih := length_putF f v r
    rw [show putF f v ((k, x) :: r) = (if k = f then (k, v) :: r else (k, x) :: putF f v r) from rfl]
    by_cases hk : k = f
    · rw [if_pos hk, List.length_cons, List.length_cons]; omega
    · rw [if_neg hk, List.length_cons, List.length_cons]; omega

theorem RelO.some_of {v : V} {o : Option Value} (r : RelO (some v) o) : ∃ u, o = some u ∧ RelV v u := by
  cases o with
  | none => exact (show False from r).elim
  | some u => exact ⟨u, rfl, r⟩
theorem RelO.none_of {o : Option Value} (r : RelO none o) : o = none := by
  cases o with
  | none => rfl
  | some u => exact (show False from r).elim
theorem handed_of {v : V} {u : Value} (r : RelV v u) : PySem.W.handedIn u = true := by
  cases v with
  | non => cases (show u = Value.none from r); rfl
  | bl b => cases (show u = Value.bool b from r); rfl
  | int i => obtain ⟨t, e⟩ := (show ∃ t, u = Value.int i t from r); cases e; rfl
  | str x => obtain ⟨t, e⟩ := (show ∃ t, u = Value.str x t from r); cases e; rfl
  | byt b => obtain ⟨t, e⟩ := (show ∃ t, u = Value.bytes b t from r); cases e; rfl
  | flt b => obtain ⟨t, e⟩ := (show ∃ t, u = Value.float b t from r); cases e; rfl
  | ref a => cases (show u = Value.ref a from r); rfl
  | ty n => cases (show u = Value.type n from r); rfl

section
variable {P : Program} {w : World} {H H' : Hp} {h h' : Heap} {a C dx : Addr} {fs fs' : List (Str × V)}
theorem ins_get (hok : HOk P w H h) (e : H a = some (.ins C dx fs)) : ∃ mA, ObjM h a dx C mA ∧ (∀ f, RelO (fs.lookup f) (mA f)) ∧ PySem.Within mA (fs.map (·.1)) ∧ fs.length ≤ 1000 ∧ H dx = some (.own a) := by
  obtain ⟨d, z, ne, ob, mA, n, r, q⟩ := (show ObjOk P w H h a (.ins C dx fs) from hok a _ e)
  exact ⟨mA, ⟨ob, n, ne⟩, r, q, z, d⟩
end

/-! ### what of the text a class must have -/
structure Cls (K : PySem.W.Frag) (C : Addr) : Prop where
  pg : PySem.W.plainGet K C Str.empty = true
  hd : PySem.W.hasDictIn K C = true
  po : PySem.W.plainOver K C = true
  sa : PySem.W.findIn K (.ref C) "__setattr__" = some (some (.builtin "object.__setattr__"))
theorem Cls.get {K : PySem.W.Frag} {C : Addr} (c : Cls K C) (f : Str) : PySem.W.plainGet K C f = true := c.pg
/-- no class of it has the name -/
def NoAttr (K : PySem.W.Frag) (C : Addr) (f : Str) : Prop := PySem.W.findIn K (.ref C) f = some none
theorem NoAttr.taker {K : PySem.W.Frag} {C : Addr} {f : Str} (n : NoAttr K C f) : PySem.W.takerIn K C f = some none := by
  unfold PySem.W.takerIn
  rw [show PySem.W.findIn K (.ref C) f = some none from n]
  rfl
/-- a constant of the class -/
structure Con (K : PySem.W.Frag) (C : Addr) (f : Str) (v : V) (u : Value) : Prop where
  at_ : PySem.W.findIn K (.ref C) f = some (some u)
  rel : RelV v u
  get : PySem.W.specialIn K u "__get__" = some none
  cp : PySem.W.copiedNames.contains f = false
/-- a method: a plain def of the class or of one above it -/
structure Meth (K : PySem.W.Frag) (C : Addr) (m : Str) (f : Addr) : Prop where
  at_ : PySem.W.findIn K (.ref C) m = some (some (.ref f))
  fn : PySem.W.isFn K (.ref f) = true
  kp : PySem.W.keepIn K (.ref f) = true

section
variable {X : Cx} {pins : List (Addr × Obj)} {σ : St} {H : Hp} {s : Shared} {a C dx : Addr} {fs : List (Str × V)} {f : Str} {v : V} {A : Around} {E : Value → Shared → Prop}

theorem getattr_ok {b : Bool} {Q : Value → Shared → Prop} (I : Inv X pins σ H s) (e : H a = some (.ins C dx fs)) (c : Cls X.K C) (n : NoAttr X.K C f) (l : fs.lookup f = some v)
    (h : ∀ u s', Inv X pins σ H s' → RelV v u → Q u s') : wpAny (model X.prog X.w) A (getAttr (.ref a) f b) Q E s := by
  obtain ⟨mA, O, r, _, _, _⟩ := ins_get I.hok e
  obtain ⟨u, hu, ru⟩ := RelO.some_of (v := v) (o := mA f) (by rw [← l]; exact r f)
  exact get_map I.kIn O (c.get f) c.hd n hu (handed_of ru) (h u _ (I.tok _) ru)

theorem getcon_ok {b : Bool} {u : Value} {Q : Value → Shared → Prop} (I : Inv X pins σ H s) (e : H a = some (.ins C dx fs)) (c : Cls X.K C) (k : Con X.K C f v u) (l : fs.lookup f = none)
    (h : ∀ s', Inv X pins σ H s' → Q u s') : wpAny (model X.prog X.w) A (getAttr (.ref a) f b) Q E s := by
  obtain ⟨mA, O, r, _, _, _⟩ := ins_get I.hok e
  have hn : mA f = none := RelO.none_of (by rw [← l]; exact r f)
  exact get_const I.kIn O (c.get f) c.hd k.at_ k.get k.cp hn (handed_of k.rel) (h _ (I.tok _))

theorem getmeth_ok {m : Str} {g : Addr} {pl : Sem Bool} {Q : Value × List Value → Shared → Prop} (I : Inv X pins σ H s) (e : H a = some (.ins C dx fs)) (c : Cls X.K C) (k : Meth X.K C m g) (l : fs.lookup m = none)
    (h : Q (.ref g, [.ref a]) s) : wpAny (model X.prog X.w) A (getMethod (.ref a) m pl) Q E s := by
  obtain ⟨mA, O, r, _, _, _⟩ := ins_get I.hok e
  have hn : mA m = none := RelO.none_of (by rw [← l]; exact r m)
  exact get_meth I.kIn O (c.get m) k.at_ k.fn hn h

theorem setattr_ok {y : V} {u : Value} {Q : Unit → Shared → Prop} (I : Inv X pins σ H s) (e : H a = some (.ins C dx fs)) (c : Cls X.K C) (n : NoAttr X.K C f) (hl : fs.length < 1000) (ry : RelV y u)
    (h : ∀ s', Inv X pins σ (upd H a (.ins C dx (putF f y fs))) s' → Q () s') : wpAny (model X.prog X.w) A (setAttr (.ref a) f u) Q E s := by
  obtain ⟨mA, O, r, wi, _, ho⟩ := ins_get I.hok e
  have hz : (fs.map (·.1)).length ≤ sizeLine := by rw [List.length_map, sizeLine_eq]; omega
  refine set_map I.kIn O c.sa c.po n.taker c.hd wi hz fun h' O' sb => h _ ?_
  have hd : ∃ o, h'.get? dx = some o := let ⟨o, _, _, e', _⟩ := O'.ns; ⟨o, e'⟩
  refine I.write (x := a) (e := dx) (by rw [e]; exact True.intro) (.inr ho) (fun b q hb z => (sb.2 b hb).trans z) hd ?_
  refine ⟨by rw [upd_ne O.ne]; exact ho, ?_, O.ne, O'.obj, _, O'.ns, fun g => ?_, fun g hg => ?_⟩
  · have := length_putF f y fs; omega
  · show RelO ((putF f y fs).lookup g) (if g = f then some u else mA g)
    rw [lookup_putF]
    by_cases q : g = f
    · rw [if_pos q, if_pos q]; exact ry
    · rw [if_neg q, if_neg q]; exact r g
  · by_cases q : g = f
    · rw [q]; exact (keys_putF f y fs).1
    · refine (keys_putF f y fs).2 g (wi g fun z => hg ?_)
      show (if g = f then some u else mA g) = none
      rw [if_neg q]; exact z

/-- a new instance, tracked, without attributes -/
theorem Inv.made (I : Inv X pins σ H s) : Inv X pins σ (upd (upd H s.heap.objs.size (.own (s.heap.objs.size + 1))) (s.heap.objs.size + 1) (.ins C s.heap.objs.size []))
    { s with heap := (s.heap.push PySem.W.emptyDict).push (PySem.W.instObj C s.heap.objs.size) } := by
  have e1 : (s.heap.push PySem.W.emptyDict).get? s.heap.objs.size = some PySem.W.emptyDict := Heap.get?_push_size s.heap rfl
  have e2 : ((s.heap.push PySem.W.emptyDict).push (PySem.W.instObj C s.heap.objs.size)).get? (s.heap.objs.size + 1) = some (PySem.W.instObj C s.heap.objs.size) := by
    have := Heap.get?_push_size (s.heap.push PySem.W.emptyDict) (o := PySem.W.instObj C s.heap.objs.size) rfl
    rwa [Heap.size_push] at this
  have e3 : (s.heap.push PySem.W.emptyDict).Ns s.heap.objs.size (fun _ => none) := ⟨PySem.W.emptyDict, #[], _, e1, rfl, (fun e he => absurd he (by simp)), fun _ => rfl⟩
  have I1 := I.laid (a := s.heap.objs.size) (o := .own (s.heap.objs.size + 1)) (h' := s.heap.push PySem.W.emptyDict) (t' := s.toks) (fun b u q => Heap.get?_push_of_some _ q) (Nat.le_refl _) ⟨_, e1⟩
  refine I1.laid (a := s.heap.objs.size + 1) (o := .ins C s.heap.objs.size []) (t' := s.toks) (fun b u q => Heap.get?_push_of_some _ q) (Nat.le_of_eq (Heap.size_push _ _)) ?_
  have ne : s.heap.objs.size ≠ s.heap.objs.size + 1 := Nat.ne_of_lt (Nat.lt_succ_self _)
  refine ⟨by rw [upd_ne ne, upd_same], Nat.zero_le _, ne, e2, fun _ => none, (Heap.Ns1.of_empty e3).at fun o q => Heap.get?_push_of_some _ q, fun _ => True.intro, fun y hy => absurd rfl hy⟩

/-- e.f where nothing but the object is asked: through attributeBase (super) and the last hold -/
theorem attr_of {prog : Program} {w : World} {env : Env} {e : Expr} {f : Str} {pos : Pos} {s : Shared} {Q : Value → Shared → Prop} (hb : attributeBase e f env (eval e env) = eval e env)
    (h : wpAny (model prog w) A (eval e env) (fun o s₁ => wpAny (model prog w) A (getAttr o f true) Q E s₁) E s) : wpAny (model prog w) A (eval (.Attribute e f pos) env) Q E s :=
  Attribute_any_ h (by rw [arm_eval_Attribute, hb])
end

/-! ### readings and rules -/
/-- e.f, an attribute of the instance -/
def tFld (K : PySem.W.Frag) (ta : TE) (f : Str) : TE := fun σ H Q => ta σ H fun x H1 => ∃ a C dx fs v, x = .ref a ∧ H1 a = some (.ins C dx fs) ∧ Cls K C ∧ NoAttr K C f ∧ fs.lookup f = some v ∧ Q v H1
/-- e.f, a constant of the class -/
def tCon (K : PySem.W.Frag) (ta : TE) (f : Str) : TE := fun σ H Q => ta σ H fun x H1 => ∃ a C dx fs v u, x = .ref a ∧ H1 a = some (.ins C dx fs) ∧ Cls K C ∧ Con K C f v u ∧ fs.lookup f = none ∧ Q v H1
/-- e.f = value -/
def sFld (K : PySem.W.Frag) (ta tv : TE) (f : Str) : TS := fun D σ H => tv σ H fun y H1 => ta σ H1 fun x H2 => ∃ a C dx fs, x = .ref a ∧ H2 a = some (.ins C dx fs) ∧ Cls K C ∧ NoAttr K C f ∧ fs.length < 1000 ∧
  D.nx σ (upd H2 a (.ins C dx (putF f y fs)))
/-- an augmented operator on two values -/
def InOp (X : Cx) (op : Operator) (rd : V → V → Hp → VK → Prop) : Prop :=
  ∀ (pins : List (Addr × Obj)) (s : Shared) (σ : St) (H : Hp) (x y : V) (u v : Value) (Q : VK), Inv X pins σ H s → RelV x u → RelV y v → rd x y H Q → wpAny (model X.prog X.w) X.A (inplaceOp op u v) (EP X pins σ Q) X.xe s
/-- e.f op= value -/
def sFldAug (K : PySem.W.Frag) (ta tv : TE) (rd : V → V → Hp → VK → Prop) (f : Str) : TS := fun D σ H => ta σ H fun x H1 => ∃ a C dx fs v, x = .ref a ∧ H1 a = some (.ins C dx fs) ∧ Cls K C ∧ NoAttr K C f ∧ fs.lookup f = some v ∧
  tv σ H1 fun y H2 => rd v y H2 fun z H3 => ∃ dx' fs', H3 a = some (.ins C dx' fs') ∧ fs'.length < 1000 ∧ D.nx σ (upd H3 a (.ins C dx' (putF f z fs')))

section
variable {X : Cx} {o e value : Expr} {f : Str} {pos pos' tpos : Pos} {ta tv : TE}
theorem pe_fld (he : PE X e ta) (hb : attributeBase e f X.env (eval e X.env) = eval e X.env) : PE X (.Attribute e f pos) (tFld X.K ta f) := by
  intro pins s σ H Q I h
  refine attr_of hb (thn (he pins s σ H _ I h) fun u s1 ⟨x, H1, I1, rx, a, C, dx, fs, v, ex, ea, c, n, l, q⟩ => ?_)
  subst ex
  obtain rfl : u = Value.ref a := rx
  exact getattr_ok I1 ea c n l fun u' s2 I2 ru => ⟨v, H1, I2, ru, q⟩
theorem pe_con (he : PE X e ta) (hb : attributeBase e f X.env (eval e X.env) = eval e X.env) : PE X (.Attribute e f pos) (tCon X.K ta f) := by
  intro pins s σ H Q I h
  refine attr_of hb (thn (he pins s σ H _ I h) fun u s1 ⟨x, H1, I1, rx, a, C, dx, fs, v, u0, ex, ea, c, k, l, q⟩ => ?_)
  subst ex
  obtain rfl : u = Value.ref a := rx
  exact getcon_ok I1 ea c k l fun s2 I2 => ⟨v, H1, I2, k.rel, q⟩
theorem ps_fld (ha : PE X o ta) (hv : PE X value tv) (hs : swapsWith value (some (.Attribute o f pos')) pos.line X.env = pure false) : PS X (.Assign [.Attribute o f pos'] value pos) (sFld X.K ta tv f) := by
  intro pins s σ H D I h
  refine plainObj_wpAny_Assign_Attribute (thn (hv pins s σ H _ I h) fun u s1 ⟨y, H1, I1, ry, q⟩ => thn (ha pins s1 σ H1 _ I1 q) fun ov s2 ⟨x, H2, I2, rx, a, C, dx, fs, ex, ea, c, n, l, q2⟩ => ?_) hs
  subst ex
  obtain rfl : ov = Value.ref a := rx
  exact setattr_ok I2 ea c n l ry fun s3 I3 => ⟨σ, _, I3, q2⟩
theorem ps_fldaug {op : Operator} {rd : V → V → Hp → VK → Prop} (ha : PE X o ta) (hv : PE X value tv) (hop : InOp X op rd) : PS X (.AugAssign (.Attribute o f tpos) op value pos) (sFldAug X.K ta tv rd f) := by
  intro pins s σ H D I h
  refine wpAny_AugAssign_AttributeAny (thn (ha pins s σ H _ I h) fun ov s1 ⟨x, H1, I1, rx, a, C, dx, fs, v, ex, ea, c, n, l, q⟩ => ?_)
  subst ex
  obtain rfl : ov = Value.ref a := rx
  refine getattr_ok I1 ea c n l fun u s2 I2 ru => thn (hv pins s2 σ H1 _ I2 q) fun w3 s3 ⟨y, H2, I3, ry, q3⟩ => thn (hop pins s3 σ H2 v y u w3 _ I3 ru ry q3) fun w4 s4 ⟨z, H3, I4, rz, dx', fs', ea', l', q4⟩ => ?_
  exact setattr_ok I4 ea' c n l' rz fun s5 I5 => ⟨σ, _, I5, q4⟩
def rAdd : V → V → Hp → VK → Prop := fun x y H Q => ∃ i j, x = .int i ∧ y = .int j ∧ Q (.int (i + j)) H
def rSub : V → V → Hp → VK → Prop := fun x y H Q => ∃ i j, x = .int i ∧ y = .int j ∧ Q (.int (i - j)) H
theorem in_add : InOp X .Add rAdd := by
  rintro pins s σ H x y u v Q I rx ry ⟨i, j, rfl, rfl, q⟩
  obtain ⟨t, rfl⟩ := (show ∃ t, u = Value.int i t from rx)
  obtain ⟨t', rfl⟩ := (show ∃ t', v = Value.int j t' from ry)
  exact PyProof.Rows.iadd_int ⟨.int (i + j), H, I.tok _, ⟨_, rfl⟩, q⟩
theorem in_sub : InOp X .Sub rSub := by
  rintro pins s σ H x y u v Q I rx ry ⟨i, j, rfl, rfl, q⟩
  obtain ⟨t, rfl⟩ := (show ∃ t, u = Value.int i t from rx)
  obtain ⟨t', rfl⟩ := (show ∃ t', v = Value.int j t' from ry)
  exact PyProof.Rows.isub_int ⟨.int (i - j), H, I.tok _, ⟨_, rfl⟩, q⟩

/-- what is between an instance and its method: the tree of a method call -/
theorem methcall_of {pl : Sem Bool} {m : Str} {apos : Pos} {args : List Expr} {pins : List (Addr × Obj)} {s : Shared} {σ : St} {H : Hp} {Q : Value → Shared → Prop} {te : TE} (he : PE X e te) (I : Inv X pins σ H s)
    (h : te σ H fun x H1 => ∃ a C dx fs g, x = .ref a ∧ H1 a = some (.ins C dx fs) ∧ Cls X.K C ∧ Meth X.K C m g ∧ fs.lookup m = none ∧
      ∀ s1, Inv X pins σ H1 s1 → wpAny (model X.prog X.w) X.A (callWith pos (.ref g) [.ref a] (backTo pos (starEach args X.env)) (backToKw pos (keywordEach [] X.env))) Q X.xe s1)
    (ht : eval (.Call (.Attribute e m apos) args [] pos) X.env = (do
      let ov ← eval e X.env
      standAt apos.atName
      let (f, first) ← holding [ov] (getMethod ov m pl)
      callWith pos f first (backTo pos (starEach args X.env)) (backToKw pos (keywordEach [] X.env)))) :
    wpAny (model X.prog X.w) X.A (eval (.Call (.Attribute e m apos) args [] pos) X.env) Q X.xe s := by
  refine PySem.W.methodCall_KW (pl := pl) (thn (he pins s σ H _ I h) fun u s1 ⟨x, H1, I1, rx, a, C, dx, fs, g, ex, ea, c, k, l, q⟩ => ?_) ht
  subst ex
  obtain rfl : u = Value.ref a := rx
  exact getmeth_ok I1 ea c k l (q s1 I1)
end

/-! ### isinstance -/
section
variable {X : Cx} {pins : List (Addr × Obj)} {σ : St} {H : Hp} {s : Shared} {A : Around} {E : Value → Shared → Prop} {Q : Value → Shared → Prop} {c : Value} {b : Bool}
/-- the type of a value, as the fragment's deciders take it; for an instance its class -/
inductive TyOf (K : PySem.W.Frag) (H : Hp) : V → Value → Prop where
  | non : TyOf K H .non (.type "NoneType")
  | bl (x : Bool) : TyOf K H (.bl x) (.type "bool")
  | int (i : Int) : TyOf K H (.int i) (.type "int")
  | str (x : Str) : TyOf K H (.str x) (.type "str")
  | flt (x : UInt64) : TyOf K H (.flt x) (.type "float")
  | lst {a : Addr} {xs : List V} (e : H a = some (.lst xs)) : TyOf K H (.ref a) (.type "list")
  | frz {a : Addr} {o : Obj} {xs : List V} (e : H a = some (.frz o (.lst xs))) : TyOf K H (.ref a) (.type "list")
  | tup {a : Addr} {xs : List V} (e : H a = some (.tup xs)) : TyOf K H (.ref a) (.type "tuple")
  | dK {a : Addr} {kvs : List (Key × V)} (e : H a = some (.dK kvs)) : TyOf K H (.ref a) (.type "dict")
  | dT {a : Addr} {kvs : List (List Key × V)} (e : H a = some (.dT kvs)) : TyOf K H (.ref a) (.type "dict")
  | ins {a C dx : Addr} {fs : List (Str × V)} (e : H a = some (.ins C dx fs)) (cl : Cls K C) (ha : PySem.W.findIn K (.ref C) "__class__" = some (some (.builtin "object.__class__")))
      (hn : PySem.W.specialIn K (.builtin "object.__class__") "__get__" = some (some (.builtin "getset_descriptor.__get__"))) (htk : PySem.W.takesIn K (.builtin "object.__class__") = some true)
      (hm : PySem.W.mroIn K C (.type "object") = some true) : TyOf K H (.ref a) (.ref C)
/-- isinstance(x, c) for one class c, a built-in or an own one: kitOne's answer -/
theorem isinst_ok {x : V} {u t : Value} (I : Inv X pins σ H s) (rx : RelV x u) (ty : TyOf X.K H x t) (e : PySem.W.kitOne X.K t c = some b) (h : ∀ tk, Q (.bool b) { s with toks := tk }) :
    wpAny (model X.prog X.w) A (call (.builtin "isinstance") [u, c]) Q E s := by
  cases ty with
  | non => cases (show u = Value.none from rx); exact PySem.W.kia_one PySem.W.kitx_none I.kIn True.intro e (fun z => nomatch z) h
  | bl y => cases (show u = Value.bool y from rx); exact PySem.W.kia_one PySem.W.kitx_bool I.kIn True.intro e (fun z => nomatch z) h
  | int i => obtain ⟨t, q⟩ := (show ∃ t, u = Value.int i t from rx); cases q; exact PySem.W.kia_one PySem.W.kitx_int I.kIn True.intro e (fun z => nomatch z) h
  | str y => obtain ⟨t, q⟩ := (show ∃ t, u = Value.str y t from rx); cases q; exact PySem.W.kia_one PySem.W.kitx_str I.kIn True.intro e (fun z => nomatch z) h
  | flt y => obtain ⟨t, q⟩ := (show ∃ t, u = Value.float y t from rx); cases q; exact PySem.W.kia_one PySem.W.kitx_float I.kIn True.intro e (fun z => nomatch z) h
  | @lst a xs ea =>
    cases (show u = Value.ref a from rx)
    obtain ⟨_, _, n, _, h1⟩ := (show ObjOk X.prog X.w H s.heap a (.lst xs) from I.hok a _ ea)
    exact PySem.W.kia_one PySem.W.kitx_list I.kIn ⟨_, h1, rfl⟩ e (fun z => nomatch z) h
  | @frz a ob xs ea =>
    cases (show u = Value.ref a from rx)
    obtain ⟨_, _, _, n, _, h1⟩ := (show ObjOk X.prog X.w H s.heap a (.frz ob (.lst xs)) from I.hok a _ ea)
    exact PySem.W.kia_one PySem.W.kitx_list I.kIn ⟨_, h1, rfl⟩ e (fun z => nomatch z) h
  | @tup a xs ea =>
    cases (show u = Value.ref a from rx)
    obtain ⟨_, _, _, p⟩ := (show ObjOk X.prog X.w H s.heap a (.tup xs) from I.hok a _ ea)
    obtain ⟨o, h1, h2, _⟩ := p
    exact PySem.W.kia_one PySem.W.kitx_tuple I.kIn ⟨o, h1, h2⟩ e (fun z => nomatch z) h
  | @dK a kvs ea =>
    cases (show u = Value.ref a from rx)
    obtain ⟨_, _, vs, _, p⟩ := (show ObjOk X.prog X.w H s.heap a (.dK kvs) from I.hok a _ ea)
    obtain ⟨o, es, ep, h1, h2, _⟩ := p
    exact PySem.W.kia_one PySem.W.kitx_dict I.kIn ⟨o, h1, h2.1⟩ e (fun z => nomatch z) h
  | @dT a kvs ea =>
    cases (show u = Value.ref a from rx)
    obtain ⟨_, _, xs, _, o, es, ep, h1, h2, _⟩ := (show ObjOk X.prog X.w H s.heap a (.dT kvs) from I.hok a _ ea)
    exact PySem.W.kia_one PySem.W.kitx_dict I.kIn ⟨o, h1, h2.1⟩ e (fun z => nomatch z) h
  | @ins a C dx fs ea cl ha hn htk hm =>
    cases (show u = Value.ref a from rx)
    obtain ⟨mA, O, _⟩ := ins_get I.hok ea
    obtain ⟨od, J, _⟩ := O.look
    exact PySem.W.kia_one (PySem.W.kitx_own (cl.get _) cl.hd ha hn htk hm) I.kIn J e (fun z => nomatch z) h
end
end L2

namespace L2
open PySem PySem.Spec PyProof.Rows

/-! ### room -/
structure Room (k : Nat) (A : Around) : Prop where
  hd : A.handled = none
  dp : A.depth + 3 * k + 5 < recursionLimit
  un : A.units + 16 * k + 200 < cLine
theorem Room.mono {j k : Nat} {A : Around} (r : Room k A) (h : j ≤ k) : Room j A := ⟨r.hd, by have := r.dp; omega, by have := r.un; omega⟩
theorem Room.deeper {k : Nat} {A : Around} (r : Room (k + 1) A) (env : Env) : Room k (A.deeper env) :=
  ⟨r.hd, by have := r.dp; show A.depth + 1 + 3 * k + 5 < _; omega, by have := r.un; show A.units + 3 + 16 * k + 200 < _; omega⟩
theorem Room.in1 {k : Nat} {A : Around} (r : Room (k + 1) A) : Room k A.in1 :=
  ⟨r.hd, by have := r.dp; show A.depth + 3 * k + 5 < _; omega, by have := r.un; show A.units + 1 + 16 * k + 200 < _; omega⟩
theorem make_depth {A : Around} {C : Addr} {us : List Value} {kw : List (Str × Value)} : (A.under (.builtin "type.__call__" ⟨.ref C :: us, kw⟩)).depth = A.depth + 1 := by
  first | rfl | simp [Around.under, Code.weight, Code.isCreation, Code.isGuard, Code.isCaller, Code.frames, Code.isFrame, guardIds]
theorem make_units {A : Around} {C : Addr} {us : List Value} {kw : List (Str × Value)} : (A.under (.builtin "type.__call__" ⟨.ref C :: us, kw⟩)).units = A.units + 1 := by
  first | rfl | simp [Around.under, Code.cUnits, Code.frames, Code.isFrame]
theorem Room.make {k : Nat} {A : Around} (r : Room (k + 1) A) (C : Addr) (us : List Value) (kw : List (Str × Value)) : Room k (A.under (.builtin "type.__call__" ⟨.ref C :: us, kw⟩)) :=
  ⟨r.hd, by have := r.dp; rw [make_depth]; omega, by have := r.un; rw [make_units]; omega⟩
theorem Room.depth {k : Nat} {A : Around} (r : Room k A) : A.depth < recursionLimit := by have := r.dp; omega
theorem Room.units {k : Nat} {A : Around} (r : Room k A) : A.units + 64 < cLine := by have := r.un; omega
theorem Room.units0 {k : Nat} {A : Around} (r : Room k A) : A.units < cLine := by have := r.un; omega

/-! ### argument lists and displays -/
def tNil : TA := fun _ H Q => Q [] H
def tCons (ta : TE) (tr : TA) : TA := fun σ H Q => ta σ H fun x H1 => tr σ H1 fun xs H2 => Q (x :: xs) H2
section
variable {X : Cx} {e : Expr} {es : List Expr} {te : TE} {t : TA} {pos : Pos}
theorem pa_nil : PA X [] tNil := fun _ _ _ _ H Q I h => Calls.spliced_nil ⟨[], H, I, .nil, h⟩
theorem pa_cons (ha : PE X e te) (hr : PA X es t) (hs : starEach (e :: es) X.env = (false, eval e X.env) :: starEach es X.env := by rfl) : PA X (e :: es) (tCons te t) := by
  intro pos pins s σ H Q I h
  rw [hs]
  show wpAny _ _ (spliced ((false, eval e X.env) :: backTo pos (starEach es X.env))) _ _ s
  refine Calls.spliced_cons (thn (ha pins s σ H _ I h) fun u s1 ⟨x, H1, I1, r1, q1⟩ => ?_)
  exact thn (hr pos pins s1 σ H1 _ I1 q1) fun us s2 ⟨xs, H2, I2, r2, q2⟩ => ⟨x :: xs, H2, I2, .cons r1 r2, q2⟩

/-- a tuple, a list of written items -/
def tTup (t : TA) : TE := fun σ H Q => t σ H fun xs H1 => xs.length ≤ sizeLine ∧ ∀ p, H1 p = none → Q (.ref p) (upd H1 p (.tup xs))
def tLst (t : TA) : TE := fun σ H Q => t σ H fun xs H1 => xs.length ≤ sizeLine ∧ ∀ p, H1 p = none → Q (.ref p) (upd H1 p (.lst xs))
theorem pe_tup {x1} (h : PA X es t) : PE X (.Tuple es x1 pos) (tTup t) := by
  intro pins s σ H Q I hq
  refine wpAny_Tuple_spliced (thn (h pos pins s σ H _ I hq) fun us s1 ⟨xs, H1, I1, r, z, q⟩ => ⟨by rw [← r.length]; exact z, ?_⟩)
  have hf : H1 s1.heap.objs.size = none := I1.hok.fresh (Nat.le_refl _)
  refine ⟨.ref s1.heap.objs.size, upd H1 s1.heap.objs.size (.tup xs), I1.laid (t' := s1.toks) (fun b u e => Heap.get?_push_of_some _ e) (Nat.le_refl _) ?_, rfl, q _ hf⟩
  exact ⟨z, us, r, ⟨_, Heap.get?_push_size _ rfl, rfl, _, rfl⟩⟩
theorem pe_lst (h : PA X es t) : PE X (.List es pos) (tLst t) := by
  intro pins s σ H Q I hq
  refine wpAny_List_spliced (thn (h pos pins s σ H _ I hq) fun us s1 ⟨xs, H1, I1, r, z, q⟩ => ⟨by rw [← r.length]; exact z, ?_⟩)
  have hf : H1 s1.heap.objs.size = none := I1.hok.fresh (Nat.le_refl _)
  refine ⟨.ref s1.heap.objs.size, upd H1 s1.heap.objs.size (.lst xs), I1.laid (t' := s1.toks) (fun b u e => Heap.get?_push_of_some _ e) (Nat.le_refl _) ?_, rfl, q _ hf⟩
  exact ⟨z, us, 0, r, Heap.get?_push_size _ rfl⟩
end

/-! ### what a def promises -/
/-- a def's promise: the bound arguments in the parameters' order, the heap, the wanted end, the wanted exception -/
abbrev Sp := List V → Hp → VK → XK → Prop
/-- how an exception lies behind a call (file 08 gives it): the callers' frames, abstract heap and state ahead of the call, the wish, the exception, the state -/
abbrev CXT := List Env → Hp → Shared → XK → Value → Shared → Prop

/-- the state at a call -/
structure Env0 (P : Program) (w : World) (K : PySem.W.Frag) (mg : Str → Option Value) (base : Heap) (A : Around) (outer : List Env) (s : Shared) (H : Hp) : Prop where
  frames : A.frames = some outer
  mod : Mod K mg base
  bs : ∀ b o, base.get? b = some o → s.heap.get? b = some o ∧ H b = none
  bsz : base.objs.size ≤ s.heap.objs.size
  funs : s.heap.FunFrames base outer
  frf : ∀ b ∈ frs outer, H b = none
  hok : HOk P w H s.heap
  bare : AllBare s.gens
/-- a call's end -/
def CE (outer : List Env) (P : Program) (w : World) (H : Hp) (s : Shared) (Q : VK) (u : Value) (s' : Shared) : Prop :=
  ∃ v H', s'.os = s.os ∧ AllBare s'.gens ∧ Un (frs outer) [] H H' s.heap s'.heap ∧ HOk P w H' s'.heap ∧ RelV v u ∧ Q v H'
def CR (CX : CXT) (outer : List Env) (P : Program) (w : World) (H : Hp) (s : Shared) (Q : VK) (E : XK) (r : Result) (s' : Shared) : Prop :=
  match r with
  | .ok (.ret u) => CE outer P w H s Q u s'
  | .ok _ => False
  | .error e => CX outer H s E e s'
structure FnOk (P : Program) (w : World) (K : PySem.W.Frag) (mg : Str → Option Value) (base : Heap) (CX : CXT) (k : Nat) (f : Addr) (fd : FuncData) (ps : List Str) (sp : Sp) : Prop where
  len : ∀ vs H Q E, sp vs H Q E → vs.length = ps.length
  run : ∀ (A : Around) (outer : List Env) (s : Shared) (H : Hp) (args : Args) (us : List Value) (vs : List V) (Q : VK) (E : XK), Room k A → Env0 P w K mg base A outer s H → BindsTo s fd args (ps.zip us) → Vals vs us → sp vs H Q E →
    codeAny (model P w) A (.call (.ref f) args) (CR CX outer P w H s Q E) s
theorem FnOk.mono {P : Program} {w : World} {K : PySem.W.Frag} {mg : Str → Option Value} {base : Heap} {CX : CXT} {j k : Nat} {f : Addr} {fd : FuncData} {ps : List Str} {sp : Sp} (F : FnOk P w K mg base CX j f fd ps sp) (h : j ≤ k) :
    FnOk P w K mg base CX k f fd ps sp := ⟨F.len, fun A outer s H args us vs Q E hr => F.run A outer s H args us vs Q E (hr.mono h)⟩
/-- a weaker promise -/
theorem FnOk.imp {P : Program} {w : World} {K : PySem.W.Frag} {mg : Str → Option Value} {base : Heap} {CX : CXT} {k : Nat} {f : Addr} {fd : FuncData} {ps : List Str} {sp sp' : Sp} (F : FnOk P w K mg base CX k f fd ps sp)
    (h : ∀ vs H Q E, sp' vs H Q E → sp vs H Q E) : FnOk P w K mg base CX k f fd ps sp' :=
  ⟨fun vs H Q E q => F.len vs H Q E (h _ _ _ _ q), fun A outer s H args us vs Q E hr he hb hv hs => F.run A outer s H args us vs Q E hr he hb hv (h _ _ _ _ hs)⟩

theorem Env0.make {P : Program} {w : World} {K : PySem.W.Frag} {mg : Str → Option Value} {base : Heap} {A : Around} {outer : List Env} {s : Shared} {H : Hp} (e : Env0 P w K mg base A outer s H) (C : Addr) (us : List Value) (kw : List (Str × Value)) :
    Env0 P w K mg base (A.under (.builtin "type.__call__" ⟨.ref C :: us, kw⟩)) outer s H := ⟨by first | exact e.frames | (simpa [Around.under, Code.envs, Code.isFrame, pushEnvs] using e.frames), e.mod, e.bs, e.bsz, e.funs, e.frf, e.hok, e.bare⟩
theorem Env0.in1 {P : Program} {w : World} {K : PySem.W.Frag} {mg : Str → Option Value} {base : Heap} {A : Around} {outer : List Env} {s : Shared} {H : Hp} (e : Env0 P w K mg base A outer s H) :
    Env0 P w K mg base A.in1 outer s H := ⟨e.frames, e.mod, e.bs, e.bsz, e.funs, e.frf, e.hok, e.bare⟩

section
variable {X : Cx} {pins : List (Addr × Obj)} {σ : St} {H : Hp} {s s' : Shared}
/-- from a body: what a callee wants -/
theorem Inv.env0 (I : Inv X pins σ H s) : Env0 X.prog X.w X.K X.mg X.base X.A X.stack s H :=
  ⟨I.ok.frames, I.ok.mod, I.bs, Nat.le_trans I.ok.bsz I.sz, I.stack, I.stkFree, I.hok, I.bare⟩
/-- behind a call -/
theorem Inv.after {Q : VK} {u : Value} (I : Inv X pins σ H s) (h : CE X.stack X.prog X.w H s Q u s') : EP X pins σ Q u s' := by
  obtain ⟨v, H', os, bare, un, hok, r, q⟩ := h
  obtain ⟨hh, g, d, t, os'⟩ := s'
  obtain rfl : os' = s.os := os
  exact ⟨v, H', I.call (h' := hh) (g' := g) (d' := d) (t' := t) (ch := []) un hok bare (fun b z => absurd z (by simp)), r, q⟩
end

/-! ### calls -/
/-- f(..): the written arguments, then the defaults dvs; E: what is wanted of an exception -/
def tCall (sp : Sp) (dvs : List V) (E : XK) (t : TA) : TE := fun σ H Q => t σ H fun vs H1 => sp (vs ++ dvs) H1 Q E
/-- o.m(..) of an instance of the class at C -/
def tMeth (C : Addr) (m : Str) (sp : Sp) (dvs : List V) (E : XK) (ta : TE) (t : TA) : TE := fun σ H Q => ta σ H fun x H1 => ∃ a dx fs, x = .ref a ∧ H1 a = some (.ins C dx fs) ∧ fs.lookup m = none ∧
  t σ H1 fun vs H2 => sp (x :: (vs ++ dvs)) H2 Q E
/-- C(..): a new instance and its dict, then __init__ -/
def tMake (C : Addr) (sp : Sp) (dvs : List V) (E : XK) (t : TA) : TE := fun σ H Q => t σ H fun vs H1 => ∀ x dx, H1 x = none → H1 dx = none → dx ≠ x →
  sp (.ref x :: (vs ++ dvs)) (upd (upd H1 dx (.own x)) x (.ins C dx [])) (fun v H2 => v = .non ∧ Q (.ref x) H2) E

/-- how the parameters are bound: us the positional arguments, kw the keywords' values by name, ds the defaults that fill up -/
def Binds (K : PySem.W.Frag) (fd : FuncData) (ps : List Str) (ds : List Value) : Prop :=
  ∀ (s : Shared) (us : List Value), K.In s.heap → (us ++ ds).length = ps.length → BindsTo s fd ⟨us, []⟩ (ps.zip (us ++ ds))
/-- every parameter is given -/
theorem Binds.all {K : PySem.W.Frag} {fd : FuncData} {ps : List Str} (h : ∀ us : List Value, us.length = ps.length → bindArgs fd ⟨us, []⟩ = pure (ps.zip us)) : Binds K fd ps [] := fun s us _ hl => by
  rw [List.append_nil] at hl ⊢
  exact .of_eq (h us hl)

/-- an exception of a callee reaches what this body wants of exceptions -/
def Passes (CX : CXT) (X : Cx) (E : XK) : Prop := ∀ (pins : List (Addr × Obj)) (σ : St) (H : Hp) (s : Shared) (e : Value) (s' : Shared), Inv X pins σ H s → CX X.stack H s E e s' → X.xe e s'

section
variable {X : Cx} {CX : CXT} {k : Nat} {f C : Addr} {fd : FuncData} {ps : List Str} {sp : Sp} {dvs : List V} {ds : List Value} {E : XK} {x m : Str} {p pos apos : Pos} {e o : Expr} {es : List Expr} {ta : TE} {t : TA}

/-- the callee runs -/
theorem run_fn {pins : List (Addr × Obj)} {σ : St} {H : Hp} {s : Shared} {Q : VK} {us : List Value} {vs : List V} (F : FnOk X.prog X.w X.K X.mg X.base CX k f fd ps sp) (hr : Room k X.A) (hb : Binds X.K fd ps ds) (hd : Vals dvs ds) (hx : Passes CX X E)
    (I : Inv X pins σ H s) (r : Vals vs us) (h : sp (vs ++ dvs) H Q E) : wpAny (model X.prog X.w) X.A (call (.ref f) us) (EP X pins σ Q) X.xe s := by
  have r2 : Vals (vs ++ dvs) (us ++ ds) := r.append hd
  have hl : (us ++ ds).length = ps.length := by rw [← r2.length]; exact F.len _ _ _ _ h
  refine wpAny_call (codeAny_mono (F.run X.A X.stack s H ⟨us, []⟩ (us ++ ds) (vs ++ dvs) Q E hr I.env0 (hb s us I.kIn hl) r2 h) fun r s' hq => ?_)
  cases r with
  | error e => exact hx pins σ H s e s' I hq
  | ok fl =>
    cases fl with
    | ret u => exact I.after hq
    | next => exact False.elim hq
    | brk => exact False.elim hq
    | cont => exact False.elim hq

theorem pe_call (F : FnOk X.prog X.w X.K X.mg X.base CX k f fd ps sp) (hr : Room k X.A) (hg : Gl X x) (hm : X.mg x = some (.ref f)) (hk : PySem.W.keepIn X.K (.ref f) = true) (hb : Binds X.K fd ps ds) (hd : Vals dvs ds) (hx : Passes CX X E)
    (ha : PA X (e :: es) t) (hdb : (x == ("__debug__" : Str)) = false := by decide) (he : starEach (e :: es) X.env = (false, eval e X.env) :: starEach es X.env := by rfl) (hpl : (backTo pos (starEach es X.env)).any (·.1) = false := by rfl) :
    PE X (.Call (.Name x p) (e :: es) [] pos) (tCall sp dvs E t) := by
  intro pins s σ H Q I h
  refine wpAny_Call_Name_kw (ld_glob I hg hm ?_ hdb)
  refine PySem.W.callWith_K (h₀ := X.base) I.ok.mod.kin hk (thn (ha pos pins s σ H _ I h) fun us s1 ⟨vs, H1, I1, r, q⟩ => ⟨I1.kIn, ?_⟩) he hpl
  exact run_fn F hr hb hd hx I1 r q
theorem pe_call0 (F : FnOk X.prog X.w X.K X.mg X.base CX k f fd ps sp) (hr : Room k X.A) (hg : Gl X x) (hm : X.mg x = some (.ref f)) (hk : PySem.W.keepIn X.K (.ref f) = true) (hb : Binds X.K fd ps ds) (hd : Vals dvs ds) (hx : Passes CX X E)
    (hdb : (x == ("__debug__" : Str)) = false := by decide) : PE X (.Call (.Name x p) [] [] pos) (tCall sp dvs E tNil) := by
  intro pins s σ H Q I h
  refine wpAny_Call_Name_kw (ld_glob I hg hm ?_ hdb)
  exact PySem.W.callWith_K0 I.kIn hk (run_fn (us := []) F hr hb hd hx I .nil h)

/-- o.m(e, ..) -/
theorem pe_meth {pl : Sem Bool} (he : PE X o ta) (c : Cls X.K C) (hm : Meth X.K C m f) (F : FnOk X.prog X.w X.K X.mg X.base CX k f fd ps sp) (hr : Room k X.A) (hb : Binds X.K fd ps ds) (hd : Vals dvs ds) (hx : Passes CX X E) (ha : PA X (e :: es) t)
    (hst : starEach (e :: es) X.env = (false, eval e X.env) :: starEach es X.env := by rfl) (hpl : (backTo pos (starEach es X.env)).any (·.1) = false := by rfl)
    (ht : eval (.Call (.Attribute o m apos) (e :: es) [] pos) X.env = (do
      let ov ← eval o X.env
      standAt apos.atName
      let (f, first) ← holding [ov] (getMethod ov m pl)
      callWith pos f first (backTo pos (starEach (e :: es) X.env)) (backToKw pos (keywordEach [] X.env))) := by rfl) :
    PE X (.Call (.Attribute o m apos) (e :: es) [] pos) (tMeth C m sp dvs E ta t) := by
  intro pins s σ H Q I h
  refine PySem.W.methodCall_KW (pl := pl) (thn (he pins s σ H _ I h) fun u s1 ⟨x, H1, I1, rx, a, dx, fs, ex, ea, l, q⟩ => ?_) ht
  subst ex
  obtain rfl : u = Value.ref a := rx
  refine getmeth_ok I1 ea c hm l ?_
  refine PySem.W.callWith_K (first := [.ref a]) (h₀ := X.base) I.ok.mod.kin hm.kp (thn (ha pos pins s1 σ H1 _ I1 q) fun us s2 ⟨vs, H2, I2, r, q2⟩ => ⟨I2.kIn, ?_⟩) hst hpl
  exact run_fn (us := .ref a :: us) (vs := .ref a :: vs) F hr hb hd hx I2 (.cons rfl r) q2
/-- o.m() -/
theorem pe_meth0 {pl : Sem Bool} (he : PE X o ta) (c : Cls X.K C) (hm : Meth X.K C m f) (F : FnOk X.prog X.w X.K X.mg X.base CX k f fd ps sp) (hr : Room k X.A) (hb : Binds X.K fd ps ds) (hd : Vals dvs ds) (hx : Passes CX X E)
    (ht : eval (.Call (.Attribute o m apos) [] [] pos) X.env = (do
      let ov ← eval o X.env
      standAt apos.atName
      let (f, first) ← holding [ov] (getMethod ov m pl)
      callWith pos f first (backTo pos (starEach [] X.env)) (backToKw pos (keywordEach [] X.env))) := by rfl) :
    PE X (.Call (.Attribute o m apos) [] [] pos) (tMeth C m sp dvs E ta tNil) := by
  intro pins s σ H Q I h
  refine PySem.W.methodCall_KW (pl := pl) (thn (he pins s σ H _ I h) fun u s1 ⟨x, H1, I1, rx, a, dx, fs, ex, ea, l, q⟩ => ?_) ht
  subst ex
  obtain rfl : u = Value.ref a := rx
  refine getmeth_ok I1 ea c hm l ?_
  exact PySem.W.callWith_K0 (first := [.ref a]) I1.kIn hm.kp (run_fn (us := [.ref a]) (vs := [.ref a]) F hr hb hd hx I1 (.cons rfl .nil) q)

/-- what a class must have to be made -/
structure Mk (K : PySem.W.Frag) (C f : Addr) : Prop where
  makes : PySem.W.makesIn K C = true
  init : PySem.W.findIn K (.ref C) "__init__" = some (some (.ref f))
  fn : PySem.W.isFn K (.ref f) = true
  kp : PySem.W.keepIn K (.ref C) = true

theorem run_make {pins : List (Addr × Obj)} {σ : St} {H : Hp} {s : Shared} {Q : VK} {us : List Value} {vs : List V} (M : Mk X.K C f) (F : FnOk X.prog X.w X.K X.mg X.base CX k f fd ps sp) (hr : Room (k + 1) X.A) (hb : Binds X.K fd ps ds) (hd : Vals dvs ds)
    (hx : Passes CX X E) (I : Inv X pins σ H s) (r : Vals vs us)
    (h : ∀ x dx, H x = none → H dx = none → dx ≠ x → sp (.ref x :: (vs ++ dvs)) (upd (upd H dx (.own x)) x (.ins C dx [])) (fun v H2 => v = .non ∧ Q (.ref x) H2) E) :
    wpAny (model X.prog X.w) X.A (call (.ref C) us) (EP X pins σ Q) X.xe s := by
  have hq := h (s.heap.objs.size + 1) s.heap.objs.size (I.hok.fresh (Nat.le_succ _)) (I.hok.fresh (Nat.le_refl _)) (Nat.ne_of_lt (Nat.lt_succ_self _))
  have I2 := Inv.made (C := C) I
  have r2 : Vals (V.ref (s.heap.objs.size + 1) :: (vs ++ dvs)) (Value.ref (s.heap.objs.size + 1) :: (us ++ ds)) := .cons rfl (r.append hd)
  have hl : (Value.ref (s.heap.objs.size + 1) :: us ++ ds).length = ps.length := by
    have e := r2.length
    rw [F.len _ _ _ _ hq] at e
    exact e.symm
  refine wpAny_call (make_map (f := f) I.kIn M.makes M.init (beq_iff_eq.mp M.fn) (codeAny_mono (F.run _ X.stack _ _ ⟨Value.ref (s.heap.objs.size + 1) :: us, []⟩ (Value.ref (s.heap.objs.size + 1) :: (us ++ ds)) _ _ E (hr.make C us [])
    (I2.env0.make C us []) (hb _ (Value.ref (s.heap.objs.size + 1) :: us) I2.kIn hl) r2 hq) fun r s' hq' => ?_))
  cases r with
  | error e => exact hx pins σ _ _ e s' I2 hq'
  | ok fl =>
    cases fl with
    | ret u =>
      obtain ⟨v, H', I3, rv, ev, q3⟩ := I2.after hq'
      subst ev
      exact ⟨rv, ⟨V.ref (s.heap.objs.size + 1), H', I3, rfl, q3⟩⟩
    | next => exact False.elim hq'
    | brk => exact False.elim hq'
    | cont => exact False.elim hq'
theorem pe_make (M : Mk X.K C f) (F : FnOk X.prog X.w X.K X.mg X.base CX k f fd ps sp) (hr : Room (k + 1) X.A) (hg : Gl X x) (hm : X.mg x = some (.ref C)) (hb : Binds X.K fd ps ds) (hd : Vals dvs ds) (hx : Passes CX X E)
    (ha : PA X (e :: es) t) (hdb : (x == ("__debug__" : Str)) = false := by decide) (he : starEach (e :: es) X.env = (false, eval e X.env) :: starEach es X.env := by rfl) (hpl : (backTo pos (starEach es X.env)).any (·.1) = false := by rfl) :
    PE X (.Call (.Name x p) (e :: es) [] pos) (tMake C sp dvs E t) := by
  intro pins s σ H Q I h
  refine wpAny_Call_Name_kw (ld_glob I hg hm ?_ hdb)
  refine PySem.W.callWith_K (h₀ := X.base) I.ok.mod.kin M.kp (thn (ha pos pins s σ H _ I h) fun us s1 ⟨vs, H1, I1, r, q⟩ => ⟨I1.kIn, ?_⟩) he hpl
  exact run_make M F hr hb hd hx I1 r q
theorem pe_make0 (M : Mk X.K C f) (F : FnOk X.prog X.w X.K X.mg X.base CX k f fd ps sp) (hr : Room (k + 1) X.A) (hg : Gl X x) (hm : X.mg x = some (.ref C)) (hb : Binds X.K fd ps ds) (hd : Vals dvs ds) (hx : Passes CX X E)
    (hdb : (x == ("__debug__" : Str)) = false := by decide) : PE X (.Call (.Name x p) [] [] pos) (tMake C sp dvs E tNil) := by
  intro pins s σ H Q I h
  refine wpAny_Call_Name_kw (ld_glob I hg hm ?_ hdb)
  exact PySem.W.callWith_K0 I.kIn M.kp (run_make (us := []) M F hr hb hd hx I .nil h)
end

/-! ### keywords -/
/-- the values of the keywords, from the left -/
def PK (X : Cx) (kws : List Keyword) (t : TA) : Prop :=
  ∀ (pos : Pos) (pins : List (Addr × Obj)) (s : Shared) (σ : St) (H : Hp) (Q : List V → Hp → Prop), Inv X pins σ H s → t σ H Q → wpAny (model X.prog X.w) X.A (evalAll ((backToKw pos (keywordEach kws X.env)).map (·.2))) (AP X pins σ Q) X.xe s
section
variable {X : Cx} {CX : CXT} {k : Nat} {f C : Addr} {fd : FuncData} {ps ks : List Str} {sp : Sp} {E : XK} {x m : Str} {p pos apos kpos : Pos} {e o : Expr} {es : List Expr} {kws : List Keyword} {te ta : TE} {t tk : TA} {nm : Option Str}
theorem pk_nil : PK X [] tNil := fun _ _ _ _ H Q I h => wpAny_evalAll_nil ⟨[], H, I, .nil, h⟩
theorem pk_cons (ha : PE X e te) (hr : PK X kws t) : PK X (⟨nm, e, kpos⟩ :: kws) (tCons te t) := by
  intro pos pins s σ H Q I h
  show wpAny _ _ (evalAll ((do let v ← eval e X.env; standAt pos; pure v) :: (backToKw pos (keywordEach kws X.env)).map (·.2))) _ _ s
  refine wpAny_evalAll_cons (wpAny_bind (thn (ha pins s σ H _ I h) fun u s1 ⟨x, H1, I1, r1, q1⟩ => wpAny_bind (wpAny_standAt (wpAny_pure ?_))))
  exact thn (hr pos pins s1 σ H1 _ I1 q1) fun us s2 ⟨xs, H2, I2, r2, q2⟩ => ⟨x :: xs, H2, I2, .cons r1 r2, q2⟩

/-- how a call with keywords binds: g puts the positional values us and the keywords' values ws (names ks) in the parameters' order, defaults among them -/
structure KBinds (K : PySem.W.Frag) (fd : FuncData) (ps ks : List Str) (g : List Value → List Value → List Value) (gV : List V → List V → List V) : Prop where
  to : ∀ (s : Shared) (us ws : List Value), K.In s.heap → (g us ws).length = ps.length → BindsTo s fd ⟨us, ks.zip ws⟩ (ps.zip (g us ws))
  rel : ∀ {vs : List V} {us : List Value} {zs : List V} {ws : List Value}, Vals vs us → Vals zs ws → Vals (gV vs zs) (g us ws)
def tCallK (sp : Sp) (gV : List V → List V → List V) (E : XK) (t tk : TA) : TE := fun σ H Q => t σ H fun vs H1 => tk σ H1 fun zs H2 => sp (gV vs zs) H2 Q E
variable {g : List Value → List Value → List Value} {gV : List V → List V → List V}
theorem run_fnk {pins : List (Addr × Obj)} {σ : St} {H : Hp} {s : Shared} {Q : VK} {us ws : List Value} {vs zs : List V} (F : FnOk X.prog X.w X.K X.mg X.base CX k f fd ps sp) (hr : Room k X.A) (hb : KBinds X.K fd ps ks g gV) (hx : Passes CX X E)
    (I : Inv X pins σ H s) (r : Vals vs us) (rz : Vals zs ws) (h : sp (gV vs zs) H Q E) : wpAny (model X.prog X.w) X.A (call (.ref f) us (ks.zip ws)) (EP X pins σ Q) X.xe s := by
  have r2 := hb.rel r rz
  have hl : (g us ws).length = ps.length := by rw [← r2.length]; exact F.len _ _ _ _ h
  refine wpAny_call (codeAny_mono (F.run X.A X.stack s H ⟨us, ks.zip ws⟩ (g us ws) (gV vs zs) Q E hr I.env0 (hb.to s us ws I.kIn hl) r2 h) fun r s' hq => ?_)
  cases r with
  | error e => exact hx pins σ H s e s' I hq
  | ok fl =>
    cases fl with
    | ret u => exact I.after hq
    | next => exact False.elim hq
    | brk => exact False.elim hq
    | cont => exact False.elim hq
/-- f(e, .., k = v, ..) -/
theorem pe_callK (F : FnOk X.prog X.w X.K X.mg X.base CX k f fd ps sp) (hr : Room k X.A) (hg : Gl X x) (hm : X.mg x = some (.ref f)) (hk : PySem.W.keepIn X.K (.ref f) = true) (hb : KBinds X.K fd ps ks g gV) (hx : Passes CX X E)
    (ha : PA X (e :: es) t) (hkw : PK X kws tk) (hall : (backToKw pos (keywordEach kws X.env)).all (·.1.isSome) = true := by rfl) (hks : (backToKw pos (keywordEach kws X.env)).filterMap (·.1) = ks := by rfl)
    (hdb : (x == ("__debug__" : Str)) = false := by decide) (he : starEach (e :: es) X.env = (false, eval e X.env) :: starEach es X.env := by rfl)
    (hpl : ((backTo pos (starEach (e :: es) X.env)).any (·.1) || (backToKw pos (keywordEach kws X.env)).any (·.1.isNone)) = false := by rfl) :
    PE X (.Call (.Name x p) (e :: es) kws pos) (tCallK sp gV E t tk) := by
  intro pins s σ H Q I h
  refine wpAny_Call_Name_kw (ld_glob I hg hm ?_ hdb)
  refine PySem.W.callWith_KW (h₀ := X.base) I.ok.mod.kin hk hall (thn (ha pos pins s σ H _ I h) fun us s1 ⟨vs, H1, I1, r, q⟩ => ?_) hpl he
  refine thn (hkw pos pins s1 σ H1 _ I1 q) fun ws s2 ⟨zs, H2, I2, rz, q2⟩ => ⟨I2.kIn, ?_⟩
  rw [hks]
  exact run_fnk F hr hb hx I2 r rz q2
end

/-! ### a def's body keeps its promise -/
/-- names: the parameters first -/
structure FnScope (N P : List Str) (sc : Scope) : Prop where
  kind : sc.kind = .function
  co : sc.isCoroutine = false
  gen : sc.isGenerator = false
  nd : N.Nodup
  pre : N.take P.length = P
  par : ∀ x ∈ P, sc.names.lookup x = some .local ∨ sc.names.lookup x = some .cell
  nofree : ∀ y ∈ sc.names, y.2 ≠ .free

theorem bindL_out {kindOf : Str → Option NameKind} {x : Str} : ∀ {binds : List (Str × Value)} {m : Str → Option Value}, (∀ v, (x, v) ∉ binds) → bindL kindOf binds m x = m x
  | [], _, _ => rfl
  | (n, v) :: r, m, h => by
    unfold bindL
    rw [bindL_out fun w hw => h w (List.mem_cons_of_mem _ hw)]
    split
    · have : x ≠ n := by rintro rfl; exact h v List.mem_cons_self
      simp [this]
    · rfl
theorem bindC_out {kindOf : Str → Option NameKind} {x : Str} : ∀ {binds : List (Str × Value)} {m : Str → Option Value}, (∀ v, (x, v) ∉ binds) → bindC kindOf binds m x = m x
  | [], _, _ => rfl
  | (n, v) :: r, m, h => by
    unfold bindC
    rw [bindC_out fun w hw => h w (List.mem_cons_of_mem _ hw)]
    split
    · rfl
    · have : x ≠ n := by rintro rfl; exact h v List.mem_cons_self
      simp [this]
theorem bindL_get {kindOf : Str → Option NameKind} {x : Str} {v : Value} : ∀ {P : List Str} {vs : List Value} {i : Nat} {m : Str → Option Value}, P.Nodup → P[i]? = some x → vs[i]? = some v → kindOf x = some .local →
    bindL kindOf (P.zip vs) m x = some v
  | [], _, _, _, _, h, _, _ => by simp at h
  | _ :: _, [], _, _, _, _, h, _ => by simp at h
  | p :: P, w :: vs, 0, m, nd, h1, h2, hk => by
    simp at h1 h2; subst h1; subst h2
    show bindL kindOf ((p, w) :: P.zip vs) m p = _
    unfold bindL
    rw [bindL_out fun v hv => (List.nodup_cons.mp nd).1 (List.of_mem_zip hv).1, if_pos hk]
    simp
  | p :: P, w :: vs, i + 1, m, nd, h1, h2, hk => by
    show bindL kindOf ((p, w) :: P.zip vs) m x = _
    unfold bindL
    exact bindL_get (i := i) (List.nodup_cons.mp nd).2 (by simpa using h1) (by simpa using h2) hk
theorem bindC_get {kindOf : Str → Option NameKind} {x : Str} {v : Value} : ∀ {P : List Str} {vs : List Value} {i : Nat} {m : Str → Option Value}, P.Nodup → P[i]? = some x → vs[i]? = some v → kindOf x ≠ some .local →
    bindC kindOf (P.zip vs) m x = some v
  | [], _, _, _, _, h, _, _ => by simp at h
  | _ :: _, [], _, _, _, _, h, _ => by simp at h
  | p :: P, w :: vs, 0, m, nd, h1, h2, hk => by
    simp at h1 h2; subst h1; subst h2
    show bindC kindOf ((p, w) :: P.zip vs) m p = _
    unfold bindC
    rw [bindC_out fun v hv => (List.nodup_cons.mp nd).1 (List.of_mem_zip hv).1, if_neg hk]
    simp
  | p :: P, w :: vs, i + 1, m, nd, h1, h2, hk => by
    show bindC kindOf ((p, w) :: P.zip vs) m x = _
    unfold bindC
    exact bindC_get (i := i) (List.nodup_cons.mp nd).2 (by simpa using h1) (by simpa using h2) hk

/-- the names' values at the entry -/
def start (N : List Str) (vs : List V) : St := vs.map some ++ List.replicate (N.length - vs.length) none

/-- the context of a def's body, at its entry; an exception leaves the frame, then lies as CX says -/
def cxOf (CX : CXT) (P : Program) (w : World) (K : PySem.W.Frag) (mg : Str → Option Value) (base : Heap) (N : List Str) (qual : Str) (scope : Scope) (f : Addr) (cd : Value) (A : Around) (outer : List Env) (s : Shared) (H : Hp) (E : XK) : Cx where
  prog := P
  w := w
  K := K
  mg := mg
  base := base
  A := A.deeper (envOfC qual scope s.heap.objs.size f cd)
  N := N
  s₀ := s
  H₀ := H
  env := envOfC qual scope s.heap.objs.size f cd
  outer := outer
  stack := envOfC qual scope s.heap.objs.size f cd :: outer
  ex := []
  calm := true
  fn := fun _ => true
  pn := []
  xe := fun e s' => wpAny (model P w) (A.deeper (envOfC qual scope s.heap.objs.size f cd)) (leaving (envOfC qual scope s.heap.objs.size f cd) e) (fun _ s'' => CX outer H s E e s'') (fun e' s'' => CX outer H s E e' s'') s'

theorem cell_has {sc : Scope} {n : Nat} {x : Str} (h : sc.names.lookup x = some .cell) : ∃ c, (cellsFrom n sc.names []).lookup x = some c := by
  have q := PySem.W.cellsFrom_some sc.names n [] (.inl h)
  exact Option.isSome_iff_exists.mp q

theorem inv_start {CX : CXT} {P : Program} {w : World} {K : PySem.W.Frag} {mg : Str → Option Value} {base : Heap} {N ps : List Str} {qual : Str} {scope : Scope} {f : Addr} {cd : Value} {A : Around} {outer : List Env} {s s1 : Shared} {H : Hp} {E : XK} {us : List Value} {vs : List V}
    (S : FnScope N ps scope) (hd : A.handled = none) (e0 : Env0 P w K mg base A outer s H) (hl : vs.length = ps.length) (r : Vals vs us)
    (x : InCallC s s.heap.objs.size (bindL (envOfC qual scope s.heap.objs.size f cd).kindOf (ps.zip us) fun _ => none) (cellsFrom (s.heap.objs.size + 1) scope.names []) (bindC (envOfC qual scope s.heap.objs.size f cd).kindOf (ps.zip us) fun _ => none) s1) :
    Inv (cxOf CX P w K mg base N qual scope f cd A outer s H E) [] (start N vs) H s1 := by
  have hpl : ps.length ≤ N.length := by have := congrArg List.length S.pre; rw [List.length_take] at this; omega
  obtain ⟨h1, tk, rfl, hk⟩ := x.done
  have noA : ∀ b : Addr, b ∉ (cxOf CX P w K mg base N qual scope f cd A outer s H E).ex := fun b z => absurd (show b ∈ ([] : List Addr) from z) (by simp)
  refine ⟨⟨e0.mod, S.kind, rfl, rfl, Nat.le_refl _, fun y z c h1 h2 => ?_, fun y hy => ?_, fun y c _ h => ?_, fun _ => hd, Around.frames_deeper e0.frames, .inr ⟨rfl, rfl⟩, fun b z => absurd z (noA b), e0.bs, e0.bsz, fun b _ _ => noA b, fun b z => absurd z (noA b), e0.funs, e0.frf⟩,
    rfl, e0.bare, Un.kept hk, ⟨_, x.toInCall.ns, fun i y v h1 h2 h3 => ?_⟩, fun y c h => ⟨_, x.cell y c h⟩, e0.hok.fresh (Nat.le_refl _), fun y c h => ?_, fun p hp => absurd (show p ∈ ([] : List (Addr × Obj)) from hp) (by simp), e0.hok.kept hk, ?_⟩
  · exact name_of_addr x.apart (PySem.mem_of_lookup h1) (PySem.mem_of_lookup h2)
  · have hy : scope.names.lookup y = some .cell ∨ scope.names.lookup y = some .free := hy
    rcases hy with hy | hy
    · exact cell_has hy
    · exact absurd rfl (S.nofree _ (PySem.mem_of_lookup hy))
  · exact Nat.le_of_lt (x.above y c (PySem.mem_of_lookup h))
  · have hi : i < vs.length := by
      unfold start at h2
      by_cases hi : i < vs.length
      · exact hi
      · rw [List.getElem?_append_right (by simpa using hi)] at h2
        rw [List.getElem?_replicate] at h2
        split at h2 <;> cases h2
    have ha : vs[i]? = some v := by
      unfold start at h2
      rw [List.getElem?_append_left (by simpa using hi), List.getElem?_map] at h2
      cases e : vs[i]? with
      | none => rw [e] at h2; cases h2
      | some a => rw [e] at h2; cases h2; rfl
    obtain ⟨u, hu, rv⟩ := r.get ha
    have hp : ps[i]? = some y := by
      rw [← S.pre, List.getElem?_take_of_lt (by omega)]; exact h1
    have ndP : ps.Nodup := by rw [← S.pre]; exact S.nd.sublist (List.take_sublist _ _)
    refine ⟨u, rv, ?_⟩
    rcases S.par y (List.mem_of_getElem? hp) with k | k
    · exact .inl ⟨k, bindL_get ndP hp hu k⟩
    · obtain ⟨c, e⟩ := cell_has (n := s.heap.objs.size + 1) k
      refine .inr ⟨.inl k, c, e, ?_⟩
      have q := x.cell y c e
      rw [bindC_get ndP hp hu (by show scope.names.lookup y ≠ _; rw [k]; decide)] at q
      exact q
  · exact e0.hok.fresh (Nat.le_of_lt (x.above y c (PySem.mem_of_lookup h)))
  · unfold start
    show _ = N.length
    rw [List.length_append, List.length_map, List.length_replicate]
    omega

/-- THE RULE: a def (or a method) of the text, by its body. The body's reading t is chosen for each entry; it is run at the parameters' values -/
theorem fn_of {CX : CXT} {P : Program} {w : World} {K : PySem.W.Frag} {mg : Str → Option Value} {base : Heap} {k : Nat} {f : Addr} {name qual : Str} {params : Arguments} {body : List Stmt} {scope : Scope} {dV kV doc pm cdv ct oc : Value} {an od : Option Addr}
    {osl : Array (Option Value)} {N ps : List Str} {sp : Sp} (lk : K.lookup f = some ⟨oc, od, .func (PySem.W.fnOf name qual params body scope dV kV doc pm an cdv ct), osl⟩) (hcd : PySem.W.codeIn K cdv qual = true) (S : FnScope N ps scope)
    (len : ∀ vs H Q E, sp vs H Q E → vs.length = ps.length)
    (hbody : ∀ (A : Around) (outer : List Env) (s : Shared) (H : Hp) (vs : List V) (Q : VK) (E : XK), Room k (A.deeper (envOfC qual scope s.heap.objs.size f cdv)) → sp vs H Q E →
      ∃ t, PSs (cxOf CX P w K mg base N qual scope f cdv A outer s H E) body t ∧ t { nx := fun _ H' => Q .non H', rt := Q } (start N vs) H) :
    FnOk P w K mg base CX (k + 1) f (PySem.W.fnOf name qual params body scope dV kV doc pm an cdv ct) ps sp := by
  refine ⟨len, fun A outer s H args us vs Q E hr e0 hb r hsp => ?_⟩
  have hl := len _ _ _ _ hsp
  have KX : K.In s.heap := e0.mod.kin.keeps fun b o e => (e0.bs b o e).1
  have lim : s.heap.NoLimit := e0.mod.nolimit.keeps fun b o e => (e0.bs b o e).1
  have hkind : ∀ y ∈ ps.zip us, scope.names.lookup y.1 = some .local ∨ (scope.names.lookup y.1 = some .cell ∧ ((cellsFrom (s.heap.objs.size + 1) scope.names []).lookup y.1).isSome = true) := fun ⟨n, v⟩ hy => by
    rcases S.par n (List.of_mem_zip hy).1 with q | q
    · exact .inl q
    · exact .inr ⟨q, PySem.W.cellsFrom_some _ _ _ (.inl q)⟩
  refine codeAny_call_function hr.depth (KX _ _ lk) rfl S.co S.gen rfl (PySem.W.codeRec_of KX hcd) (hb _ _ _ _ ?_)
  refine wpAny_newFunctionEnv_cells S.kind hkind fun env he s1 x => ?_
  subst he
  refine ⟨lim.keeps x.toInCall.keep, codeAny_func ?_⟩
  obtain ⟨t, ht, hq⟩ := hbody A outer s H vs Q E (hr.deeper _) hsp
  have I : Inv (cxOf CX P w K mg base N qual scope f cdv A outer s H E) [] (start N vs) H s1 := inv_start S hr.hd e0 hl r x
  refine wpAny_mono (ht [] s1 (start N vs) H _ I hq) (fun fl s' hs => ?_) fun e s' hs => hs
  have fin : ∀ {σ' : St} {H' : Hp} {v : V} {u : Value}, Inv (cxOf CX P w K mg base N qual scope f cdv A outer s H E) [] σ' H' s' → RelV v u → Q v H' → CE outer P w H s Q u s' :=
    fun {σ' H' v u} J rv q => ⟨v, H', J.os, J.bare, J.base, J.hok, rv, q⟩
  cases fl with
  | ret u =>
    obtain ⟨v, σ', H', J, rv, q⟩ := hs
    exact fin J rv q
  | next =>
    obtain ⟨σ', H', J, q⟩ := hs
    exact fin (v := V.non) (u := Value.none) J rfl q
  | brk =>
    obtain ⟨_, _, _, q⟩ := hs
    exact False.elim q
  | cont =>
    obtain ⟨_, _, _, q⟩ := hs
    exact False.elim q
end L2

namespace L2
open PySem PySem.Spec PyProof.Rows
section
variable {X : Cx} {x : Str} {p pos : Pos} {e : Expr} {es : List Expr} {t : TA} {id T : String} {r : List V → Hp → VK → Prop}

def tCB (r : List V → Hp → VK → Prop) (t : TA) : TE := fun σ H Q => t σ H fun vs H1 => r vs H1 Q
/-- f(e, ..), f a built-in function -/
theorem pe_callB (hc : CallR X (.builtin id) r) (hg : Gl X x) (hm : X.mg x = none) (hv : bootBuiltins x = some (.builtin id)) (ha : PA X (e :: es) t) (hn : x ≠ "__name__" := by decide) (hdb : (x == ("__debug__" : Str)) = false := by decide)
    (he : starEach (e :: es) X.env = (false, eval e X.env) :: starEach es X.env := by rfl) (hpl : (backTo pos (starEach es X.env)).any (·.1) = false := by rfl) : PE X (.Call (.Name x p) (e :: es) [] pos) (tCB r t) := by
  intro pins s σ H Q I h
  refine wpAny_Call_Name_kw (ld_blt I hg hm hv ?_ hn hdb)
  exact PyProof.Rows.callWith_builtin1 (thn (ha pos pins s σ H _ I h) fun us s1 ⟨vs, H1, I1, r1, q1⟩ => hc pins s1 σ H1 vs us Q I1 r1 q1) he hpl
/-- T(e, ..), T a built-in type -/
theorem pe_callTy (hc : CallR X (.type T) r) (hg : Gl X x) (hm : X.mg x = none) (hv : bootBuiltins x = some (.type T)) (ha : PA X (e :: es) t) (hn : x ≠ "__name__" := by decide) (hdb : (x == ("__debug__" : Str)) = false := by decide)
    (he : starEach (e :: es) X.env = (false, eval e X.env) :: starEach es X.env := by rfl) (hpl : (backTo pos (starEach es X.env)).any (·.1) = false := by rfl) : PE X (.Call (.Name x p) (e :: es) [] pos) (tCB r t) := by
  intro pins s σ H Q I h
  refine wpAny_Call_Name_kw (ld_blt I hg hm hv ?_ hn hdb)
  exact PyProof.Rows.callWith_type1 (thn (ha pos pins s σ H _ I h) fun us s1 ⟨vs, H1, I1, r1, q1⟩ => hc pins s1 σ H1 vs us Q I1 r1 q1) he hpl
/-- T() -/
theorem pe_callTy0 (hc : CallR X (.type T) r) (hg : Gl X x) (hm : X.mg x = none) (hv : bootBuiltins x = some (.type T)) (hn : x ≠ "__name__" := by decide) (hdb : (x == ("__debug__" : Str)) = false := by decide) :
    PE X (.Call (.Name x p) [] [] pos) (tCB r tNil) := by
  intro pins s σ H Q I h
  refine wpAny_Call_Name_kw (ld_blt I hg hm hv ?_ hn hdb)
  exact PyProof.Rows.callWith_type0 (hc pins s σ H [] [] Q I .nil h)
end
end L2

namespace HT
open PySem PyProof.Rows

/-- t < u of tuples of ints -/
def lexLt : List Int → List Int → Bool
  | [], [] => false
  | [], _ :: _ => true
  | _ :: _, [] => false
  | x :: xs, y :: ys => if x = y then lexLt xs ys else decide (x < y)
theorem lexLt_cons (x y : Int) (xs ys : List Int) : lexLt (x :: xs) (y :: ys) = if x = y then lexLt xs ys else decide (x < y) := rfl
theorem lexLt_nil_nil : lexLt [] [] = false := rfl
theorem lexLt_nil_cons (y : Int) (ys : List Int) : lexLt [] (y :: ys) = true := rfl
theorem lexLt_cons_nil (x : Int) (xs : List Int) : lexLt (x :: xs) [] = false := rfl

theorem eqAt_int (A : Around) (s : Shared) (a : Int) (t : Tok) (c : Int) (u : Tok) : ∃ e, SeqAt.EqAt A s (.int a t) (.int c u) e ∧ (e = true ↔ a = c) :=
  ⟨(a == c), SeqAt.EqAt.int_int a t c u, by simp⟩
theorem rcLt_int (A : Around) (s : Shared) (a : Int) (t : Tok) (c : Int) (u : Tok) (prog : Program) (w : World) (E : Value → Shared → Prop) (Q : Value → Shared → Prop) (h : Q (.bool (decide (a < c))) s) :
    wpAny (model prog w) A (richCompare .Lt (.int a t) (.int c u)) Q E s :=
  (PyProof.Rows.lt_int h : wpAny (model prog w) A (compareOp .Lt (.int a t) (.int c u)) Q E s)

section
open PySem.SeqAt
open PySem.AutoSeq1 (wpAny_loadPart')
open PySem.MeetsSeq PySem.MeetsSeq2 PySem.MeetsSeq3

theorem tuple_lt_ints (l b : Addr) (items items2 : Array Value) (n n2 : Nat) (dd dd2 : Option Addr) (sl sl2 : Array (Option Value)) (ns ms : List Int) (hi : IntsAre items.toList ns) (hj : IntsAre items2.toList ms) :
    Meets (Builtin.«tuple.__lt__» ⟨[.ref l, .ref b], []⟩)
      (fun _ R s => s.heap.get? l = some { cls := .type "tuple", dict := dd, data := .seq items n, slots := sl } ∧ s.heap.get? b = some { cls := .type "tuple", dict := dd2, data := .seq items2 n2, slots := sl2 } ∧
        R (.ok (.ret (.bool (lexLt ns ms)))) s) :=
  .of_wp fun prog w A R s h => by
    obtain ⟨hp, g, d, tk, os⟩ := s; obtain ⟨hl, hb, h⟩ := h
    have f2 := AutoSeq1.sub_tuple_tuple
    have z1 : items.size = ns.length := by rw [← hi.length]; simp
    have z2 : items2.size = ms.length := by rw [← hj.length]; simp
    wp_walk using wpAny_loadPart' hl, wpAny_loadPart' hb, wpAny_forIn_list _ (fun rest b s' => b.1 = none ∧ s' = ⟨hp, g, d, tk, os⟩ ∧ ∃ (vs ws : List Value) (ns' ms' : List Int), rest = vs.zip ws ∧
      IntsAre vs ns' ∧ IntsAre ws ms' ∧ ns'.length + items2.size = ms'.length + items.size ∧ R (.ok (.ret (.bool (lexLt ns' ms')))) ⟨hp, g, d, tk, os⟩) _
    case turn =>
      rintro ⟨y, x⟩ rest b s' ⟨hb', rfl, vs, ws, ns', ms', hz, hvi, hwi, hlen, hR⟩
      cases hvi with
      | nil => rw [List.zip_nil_left] at hz; cases hz
      | cons a t hvi' =>
        cases hwi with
        | nil => rw [List.zip_nil_right] at hz; cases hz
        | cons c u hwi' =>
          rw [List.zip_cons_cons] at hz
          injection hz with hyx hrest
          injection hyx with hy hx
          subst hy hx
          rw [lexLt_cons] at hR
          simp only [List.length_cons] at hlen
          obtain ⟨e, he, hiff⟩ := eqAt_int A.in1 ⟨hp, g, d, tk, os⟩ a t c u
          refine wpAny_bind (he prog w _ _ ?_)
          cases e with
          | true =>
            rw [if_pos (hiff.mp rfl)] at hR
            wp_walk
            exact ⟨rfl, rfl, _, _, _, _, hrest, hvi', hwi', by omega, hR⟩
          | false =>
            rw [if_neg (fun q => absurd (hiff.mpr q) Bool.false_ne_true)] at hR
            have hri := rcLt_int A.in1 ⟨hp, g, d, tk, os⟩ a t c u prog w
            wp_walk using hri
            exact ⟨_, rfl, by simpa using hR⟩
    case fin =>
      rintro ⟨b1, b2⟩ s' ⟨hb', rfl, vs, ws, ns', ms', hz, hvi, hwi, hlen, hR⟩
      simp only at hb'
      subst hb'
      have hv : lexLt ns' ms' = decide (items.size < items2.size) := by
        cases hvi with
        | nil =>
          cases hwi with
          | nil =>
            simp only [List.length_nil] at hlen
            rw [lexLt_nil_nil]
            exact (decide_eq_false (by omega)).symm
          | cons c u hw =>
            simp only [List.length_nil, List.length_cons] at hlen
            rw [lexLt_nil_cons]
            exact (decide_eq_true (by omega)).symm
        | cons a t hv =>
          cases hwi with
          | nil =>
            simp only [List.length_nil, List.length_cons] at hlen
            rw [lexLt_cons_nil]
            exact (decide_eq_false (by omega)).symm
          | cons c u hw =>
            rw [List.zip_cons_cons] at hz
            cases hz
      rw [hv] at hR
      wp_walk
      exact ⟨_, rfl, by simpa [Builtin.Tuple.tupleCompareSizes] using hR⟩
    case h =>
      exact ⟨rfl, rfl, items.toList, items2.toList, ns, ms, rfl, hi, hj, by omega, h⟩
end

section
variable {prog : Program} {w : World} {A : Around} {E : Value → Shared → Prop} {s : Shared}

theorem lt_tupInts {l b : Addr} {items items2 : Array Value} {ns ms : List Int} {Q : Value → Shared → Prop} (hl : IsTup s.heap l items) (hb : IsTup s.heap b items2) (hi : IntsAre items.toList ns) (hj : IntsAre items2.toList ms)
    (hu : A.units < cLine) (h : Q (.bool (lexLt ns ms)) s) : wpAny (model prog w) A (compareOp .Lt (.ref l) (.ref b)) Q E s := by
  obtain ⟨⟨cls, dd, data, sl⟩, ho, hc, n, hd⟩ := id hl
  obtain ⟨⟨cls2, dd2, data2, sl2⟩, ho2, hc2, n2, hd2⟩ := id hb
  simp only at hc hd hc2 hd2
  subst hc hd hc2 hd2
  exact richCompare_meets_room (op := .Lt) ⟨_, ho, rfl⟩ ⟨_, ho2, rfl⟩ PySem.F.slot_tuple_lt PySem.F.entry_tuple_lt (PySem.F.args_tuple_lt_2 _ _) (tuple_lt_ints l b items items2 n n2 dd dd2 sl sl2 ns ms hi hj)
    ⟨ho, ho2, show Value.bool (lexLt ns ms) ≠ Value.notImplemented ∧ Q (.bool (lexLt ns ms)) s from ⟨(fun x => nomatch x), h⟩⟩ hu

/-- t + u, t not empty -/
theorem cat_tup {t b : Addr} {vs ws : List Value} {Q : Value → Shared → Prop} (ht : IsTup s.heap t vs.toArray) (hb : IsTup s.heap b ws.toArray) (hv : vs ≠ [])
    (h1 : ws = [] → Q (.ref t) s) (h2 : ws ≠ [] → Q (.ref s.heap.objs.size) { s with heap := s.heap.push { cls := .type "tuple", data := .seq (vs ++ ws).toArray } })
    (hsz : vs.length + ws.length ≤ sizeLine) : wpAny (model prog w) A (binaryOp .Add (.ref t) (.ref b)) Q E s := by
  obtain ⟨⟨cls, dd, data, sl⟩, ho, hc, n, hd⟩ := id ht
  obtain ⟨⟨cls2, dd2, data2, sl2⟩, ho2, hc2, n2, hd2⟩ := id hb
  simp only at hc hd hc2 hd2
  subst hc hd hc2 hd2
  have e : vs.toArray ++ ws.toArray = (vs ++ ws).toArray := by simp
  by_cases hw : ws = []
  · exact concat_meets ⟨_, ho, rfl⟩ ⟨_, ho2, rfl⟩ noFill_tuple_add seq_tuple_add PySem.F.slot_tuple_add PySem.F.entry_tuple_add (PySem.F.args_tuple_add_2 _ _)
      (tuple_addW1 t b vs.toArray ws.toArray n n2 dd dd2 sl sl2 (by simpa using hv) (by simp [hw])) ⟨ho, ho2, h1 hw⟩
  · refine concat_meets ⟨_, ho, rfl⟩ ⟨_, ho2, rfl⟩ noFill_tuple_add seq_tuple_add PySem.F.slot_tuple_add PySem.F.entry_tuple_add (PySem.F.args_tuple_add_2 _ _)
      (tuple_addW2 t b vs.toArray ws.toArray n n2 dd dd2 sl sl2 (by simpa using hv) (by simpa using hw) (by rw [List.size_toArray, List.size_toArray]; exact hsz)) ⟨ho, ho2, ?_⟩
    rw [e]
    exact h2 hw

/-! ### t[a:b], not the whole -/
/-- a slice's bound as a place among n (d where it is left out) -/
def sIx (n d : Nat) : Option Int → Nat
  | none => d
  | some v => if v < 0 then (v + (n : Int)).toNat else min v.toNat n
theorem sIx_none (n d : Nat) : sIx n d none = d := rfl
theorem sIx_nat (n d k : Nat) : sIx n d (some (k : Int)) = min k n := by
  show (if (k : Int) < 0 then ((k : Int) + (n : Int)).toNat else min (k : Int).toNat n) = min k n
  rw [if_neg (by omega), Int.toNat_natCast]
theorem sIx_le (n d : Nat) (hd : d ≤ n) (o : Option Int) : sIx n d o ≤ n := by
  cases o with
  | none => exact hd
  | some v =>
    show (if v < 0 then (v + (n : Int)).toNat else min v.toNat n) ≤ n
    by_cases hv : v < 0
    · rw [if_pos hv]; omega
    · rw [if_neg hv]; exact Nat.min_le_right _ _
theorem clip_eq (v : Int) (n d : Nat) : (if v < 0 then max (v + (n : Int)) 0 else min v (n : Int)) = ((sIx n d (some v) : Nat) : Int) := by
  show (if v < 0 then max (v + (n : Int)) 0 else min v (n : Int)) = (((if v < 0 then (v + (n : Int)).toNat else min v.toNat n) : Nat) : Int)
  by_cases hv : v < 0
  · simp only [if_pos hv]; omega
  · simp only [if_neg hv]; omega
theorem adjust_gen (lo hi : Option Int) (n : Nat) : Builtin.Slice.sliceAdjust lo hi 1 (n : Int) = (((sIx n 0 lo : Nat) : Int), ((sIx n n hi : Nat) : Int)) := by
  have h1 : ¬ ((1 : Int) < 0) := by omega
  unfold Builtin.Slice.sliceAdjust
  simp only [h1, if_false]
  refine Prod.ext ?_ ?_
  · cases lo with
    | none => rfl
    | some v => exact clip_eq v n 0
  · cases hi with
    | none => rfl
    | some v => exact clip_eq v n n
theorem places_gen (i j : Nat) : Builtin.Slice.slicePlaces (i : Int) (j : Int) 1 = j - i := by
  unfold Builtin.Slice.slicePlaces
  have h1 : (1 : Int) > 0 := by omega
  simp only [h1, if_true, Int.ediv_one]
  split <;> omega
theorem slicePart_ {v : Value} {o : Option Int} {Q : Option Int → Shared → Prop} (p : IsPart v o) (h : Q o s) : wpAny (model prog w) A (Builtin.Slice.slicePartIndex v) Q E s := by
  cases p with
  | none => exact slicePart_none h
  | int i t => exact slicePart_int h
theorem sliceApplied_gen {sl : Addr} {vl vu : Value} {lo hi : Option Int} {n : Nat} {Q : Int × Int × Nat → Shared → Prop} (hs : s.heap.IsSliceOf sl vl vu .none) (pl : IsPart vl lo) (pu : IsPart vu hi)
    (h : Q (((sIx n 0 lo : Nat) : Int), 1, sIx n n hi - sIx n 0 lo) s) : wpAny (model prog w) A (Builtin.Slice.sliceApplied (.ref sl) (pure (n : Int))) Q E s := by
  obtain ⟨os, hos, hcs, hds⟩ := id hs
  unfold Builtin.Slice.sliceApplied Builtin.Slice.sliceFields
  refine wpAny_bind (wpAny_bind (wpAny_field hos hds (x := vl) rfl (wpAny_bind (wpAny_field hos hds (x := vu) rfl (wpAny_bind (wpAny_field hos hds (x := .none) rfl (wpAny_pure ?_)))))))
  refine wpAny_bind (slicePart_none ?_)
  show wpAny _ _ (if ((1 : Int) == 0) = true then _ else _) _ _ s
  rw [if_neg (by decide)]
  refine wpAny_bind (slicePart_ pl (wpAny_bind (slicePart_ pu (wpAny_bind (wpAny_pure ?_)))))
  show wpAny _ _ (match Builtin.Slice.sliceAdjust lo hi 1 (n : Int) with | (lo, hi) => pure (lo, (1 : Int), Builtin.Slice.slicePlaces lo hi 1)) _ _ s
  rw [adjust_gen lo hi n]
  show wpAny _ _ (pure (((sIx n 0 lo : Nat) : Int), (1 : Int), Builtin.Slice.slicePlaces ((sIx n 0 lo : Nat) : Int) ((sIx n n hi : Nat) : Int) 1)) _ _ s
  rw [places_gen]
  exact wpAny_pure h
theorem pick_gen (xs : Array Value) (i k : Nat) : ((List.range k).filterMap fun (m : Nat) => xs[((i : Int) + (m : Int) * 1).toNat]?).toArray = ((xs.toList.drop i).take k).toArray := by
  have e : (fun (m : Nat) => xs[((i : Int) + (m : Int) * 1).toNat]?) = fun m => xs[i + m]? := by
    funext m
    have : ((i : Int) + (m : Int) * 1).toNat = i + m := by omega
    rw [this]
  rw [e]
  have := pick_run xs i k
  rw [List.filterMap_map] at this
  have e2 : ((fun x => xs[x]?) ∘ fun x => i + x) = fun m => xs[i + m]? := rfl
  rw [e2] at this
  rw [this]

theorem getItem_tuple_cut {t sl : Addr} {items : Array Value} {vl vu : Value} {lo hi : Option Int} {Q : Value → Shared → Prop} (ht : IsTup s.heap t items) (hs : s.heap.IsSliceOf sl vl vu .none) (pl : IsPart vl lo) (pu : IsPart vu hi)
    (hw : ¬ (sIx items.size 0 lo = 0 ∧ sIx items.size items.size hi = items.size))
    (h : Q (.ref s.heap.objs.size) { s with heap := s.heap.push { cls := .type "tuple", data := .seq ((items.toList.drop (sIx items.size 0 lo)).take (sIx items.size items.size hi - sIx items.size 0 lo)).toArray } })
    (hsz : items.size ≤ sizeLine) : wpAny (model prog w) A (getItem (.ref t) (.ref sl)) Q E s := by
  have htake : sizeOk (.seq ((items.toList.drop (sIx items.size 0 lo)).take (sIx items.size items.size hi - sIx items.size 0 lo)).toArray) := by
    show ((items.toList.drop (sIx items.size 0 lo)).take (sIx items.size items.size hi - sIx items.size 0 lo)).toArray.size ≤ sizeLine
    rw [List.size_toArray, List.length_take, List.length_drop, Array.length_toList]
    omega
  have hj : sIx items.size items.size hi ≤ items.size := sIx_le _ _ (Nat.le_refl _) hi
  obtain ⟨os, hos, hcs, hds⟩ := id hs
  have hTs : s.TypeIs (.ref sl) "slice" := ⟨os, hos, hcs⟩
  unfold getItem
  try with_reducible refine wpAny_holding ?_
  first | refine wpAny_bind (wpAny_pure ?_) | skip
  refine wpAny_bind (wpAny_sequenceKey ht.typeIs (by decide) ?_)
  refine wpAny_bind (wpAny_callSpecial?_slot (name := Str.ofString "__getitem__") ht.typeIs PyProof.Rows.slot_tuple_getitem
    (wpAny_call_entry PyProof.Rows.slot_tuple_getitem ht.typeIs entry_tuple_getitem ?_ (args_tuple_getitem _ _)))
  show wpAny _ _ (Builtin.Tuple.tupleItemsOf (.ref t) >>= _) _ _ s
  refine wpAny_bind (tupleItemsOf_ ht ?_)
  refine wpAny_bind (wpAny_typeOf hTs ?_)
  rw [if_pos (by decide)]
  refine wpAny_bind (sliceApplied_gen hs pl pu ?_)
  have hno : ¬ ((((sIx items.size 0 lo : Nat) : Int) == 0 && (1 : Int) == 1 && (sIx items.size items.size hi - sIx items.size 0 lo) == items.size) = true) := by
    intro q
    rw [Bool.and_eq_true, Bool.and_eq_true] at q
    have q1 : ((sIx items.size 0 lo : Nat) : Int) = 0 := eq_of_beq q.1.1
    have q2 : sIx items.size items.size hi - sIx items.size 0 lo = items.size := eq_of_beq q.2
    exact hw ⟨by omega, by omega⟩
  show wpAny _ _ (if (((sIx items.size 0 lo : Nat) : Int) == 0 && (1 : Int) == 1 && (sIx items.size items.size hi - sIx items.size 0 lo) == items.size) = true then _ else _) _ _ s
  rw [if_neg hno, pick_gen]
  first
    | exact wpAny_bind (m := Builtin.Tuple.tupleExact _) (wpAny_newObj_type (wpAny_pure ⟨_, rfl, wpAny_pure h⟩) htake)
    | exact wpAny_bind (m := Builtin.Tuple.tupleExact _) (wpAny_newObj_type (wpAny_bind (wpAny_pure (wpAny_pure ⟨_, rfl, wpAny_pure h⟩))) htake)
    | exact wpAny_bind (wpAny_bind (m := Builtin.Tuple.tupleExact _) (wpAny_newObj_type (wpAny_pure (wpAny_pure ⟨_, rfl, wpAny_pure h⟩)) htake))
    | exact wpAny_bind (wpAny_bind (m := Builtin.Tuple.tupleExact _) (wpAny_newObj_type (wpAny_pure ⟨_, rfl, wpAny_pure h⟩) htake))
end
end HT

namespace L2
open PySem PySem.Spec PyProof.Rows

/-! ### the parts of a slice -/
abbrev TO := St → Hp → (Option Int → Hp → Prop) → Prop
/-- a slice's part (left out, or an int) -/
def PO (X : Cx) (e : Option Expr) (t : TO) : Prop :=
  ∀ (pins : List (Addr × Obj)) (s : Shared) (σ : St) (H : Hp) (Q : Option Int → Hp → Prop), Inv X pins σ H s → t σ H Q →
    wpAny (model X.prog X.w) X.A (evalPart e X.env) (fun u s' => ∃ o H', Inv X pins σ H' s' ∧ IsPart u o ∧ Q o H') X.xe s
def tNoPart : TO := fun _ H Q => Q none H
def tPart (t : TE) : TO := fun σ H Q => t σ H fun x H1 => ∃ i, x = .int i ∧ Q (some i) H1

theorem intsAre_of {ns : List Int} : ∀ {us : List Value}, Vals (ns.map V.int) us → IntsAre us ns := by
  induction ns with
  | nil => intro us r; rw [List.map_nil] at r; cases r; exact .nil
  | cons n ns ih =>
    intro us r
    rw [List.map_cons] at r
    cases r with
    | cons r1 r2 =>
      obtain ⟨t, e⟩ := r1
      subst e
      exact .cons n t (ih r2)

section
variable {X : Cx} {e : Expr} {te : TE} {lo hi : Option Expr} {tl th : TO} {pos p2 : Pos}

theorem po_none : PO X none tNoPart := by
  intro pins s σ H Q I h
  rw [evalPart_none]
  exact wpAny_pure ⟨none, H, I, .none, h⟩
theorem po_some (h : PE X e te) : PO X (some e) (tPart te) := by
  intro pins s σ H Q I hw
  rw [evalPart_some]
  refine thn (h pins s σ H _ I hw) fun u s1 ⟨x, H1, I1, r1, q1⟩ => ?_
  obtain ⟨i, rfl, q⟩ := q1
  obtain ⟨t, rfl⟩ := r1
  exact ⟨some i, H1, I1, .int i t, q⟩

/-- what a slice of a value is, by values: the slice object stands at sl -/
def SlR (X : Cx) (r : V → Option Int → Option Int → Hp → VK → Prop) : Prop :=
  ∀ (pins : List (Addr × Obj)) (s : Shared) (σ : St) (H : Hp) (x : V) (v vl vu : Value) (lo hi : Option Int) (sl : Addr) (Q : VK), Inv X pins σ H s → RelV x v → s.heap.IsSliceOf sl vl vu .none → IsPart vl lo → IsPart vu hi → r x lo hi H Q →
    ∃ T id, typeLookup (.type T) "__getitem__" = pure (some (.builtin id)) ∧ s.TypeIs v T ∧ wpAny (model X.prog X.w) X.A (getItem v (.ref sl)) (EP X pins σ Q) X.xe s
theorem SlR.or {r r' : V → Option Int → Option Int → Hp → VK → Prop} (h : SlR X r) (h' : SlR X r') : SlR X (fun x lo hi H Q => r x lo hi H Q ∨ r' x lo hi H Q) := by
  intro pins s σ H x v vl vu lo hi sl Q I rx hs pl pu q
  rcases q with q | q
  · exact h pins s σ H x v vl vu lo hi sl Q I rx hs pl pu q
  · exact h' pins s σ H x v vl vu lo hi sl Q I rx hs pl pu q
def tSl (r : V → Option Int → Option Int → Hp → VK → Prop) (te : TE) (tl th : TO) : TE := fun σ H Q => te σ H fun x H1 => tl σ H1 fun l H2 => th σ H2 fun u H3 => r x l u H3 Q
/-- a[lo:hi], any a -/
theorem pe_slice {r : V → Option Int → Option Int → Hp → VK → Prop} (hr : SlR X r) (he : PE X e te) (hl : PO X lo tl) (hu : PO X hi th) : PE X (.Subscript e (.Slice lo hi none p2) pos) (tSl r te tl th) := by
  intro pins s σ H Q I h
  refine Subscript_ (thn (he pins s σ H _ I h) fun v s1 ⟨x, H1, I1, r1, q1⟩ => ?_)
  refine wpAny_Slice (thn (hl pins s1 σ H1 _ I1 q1) fun vl s2 ⟨l, H2, I2, pl, q2⟩ => thn (hu pins s2 σ H2 _ I2 q2) fun vu s3 ⟨u, H3, I3, pu, q3⟩ => ?_)
  rw [evalPart_none]
  refine wpAny_pure ?_
  have I4 : Inv X pins σ H3 { s3 with heap := s3.heap.push { cls := .type "slice", data := .fields #[vl, vu, .none] } } := I3.kept (t' := s3.toks) fun b ob q => Heap.get?_push_of_some _ q
  obtain ⟨T, id, hT, ht, hg⟩ := hr pins { s3 with heap := s3.heap.push { cls := .type "slice", data := .fields #[vl, vu, .none] } } σ H3 x v vl vu l u s3.heap.objs.size Q I4 r1 (Heap.IsSliceOf.new ..) pl pu q3
  show wpAny (model X.prog X.w) X.A (subscriptTail e (.Slice lo hi none p2) v (.ref s3.heap.objs.size)) (EP X pins σ Q) X.xe { s3 with heap := s3.heap.push { cls := .type "slice", data := .fields #[vl, vu, .none] } }
  exact tail_any (ops := [.ref s3.heap.objs.size, v]) ht hT hg (by with_unfolding_all rfl)

/-- the items of xs[lo:hi] -/
def cutV (xs : List V) (lo hi : Option Int) : List V := (xs.drop (HT.sIx xs.length 0 lo)).take (HT.sIx xs.length xs.length hi - HT.sIx xs.length 0 lo)
theorem cutV_length (xs : List V) (lo hi : Option Int) : (cutV xs lo hi).length ≤ xs.length := by
  unfold cutV
  rw [List.length_take, List.length_drop]
  omega
/-- t[lo:hi], not the whole of it (the whole would be t itself) -/
def rSlT (K : PySem.W.Frag) : V → Option Int → Option Int → Hp → VK → Prop := fun x lo hi H Q => ∃ a xs, x = .ref a ∧ SqT K H a xs ∧
  ¬ (HT.sIx xs.length 0 lo = 0 ∧ HT.sIx xs.length xs.length hi = xs.length) ∧ ∀ p, H p = none → Q (.ref p) (upd H p (.tup (cutV xs lo hi)))
theorem sl_tup : SlR X (rSlT X.K) := by
  intro pins s σ H x v vl vu lo hi sl Q I rx hs pl pu h
  obtain ⟨a, xs, rfl, hx, hw, q⟩ := h
  cases rx
  obtain ⟨its, r, ht, hz⟩ := I.tuple hx
  have hlen : its.toArray.size = xs.length := by rw [List.size_toArray]; exact r.length.symm
  refine ⟨"tuple", _, PyProof.Rows.slot_tuple_getitem.lookup, ht.typeIs, ?_⟩
  refine HT.getItem_tuple_cut ht hs pl pu (by rw [hlen]; exact hw) ?_ (by rw [hlen]; exact hz)
  rw [hlen]
  refine ⟨.ref s.heap.objs.size, _, I.laid (t' := s.toks) (o := .tup (cutV xs lo hi)) (fun b ob q => Heap.get?_push_of_some _ q) (Nat.le_refl _) ?_, rfl, q _ (I.hok.fresh (Nat.le_refl _))⟩
  exact ⟨Nat.le_trans (cutV_length xs lo hi) hz, _, (r.drop (HT.sIx xs.length 0 lo)).take (HT.sIx xs.length xs.length hi - HT.sIx xs.length 0 lo), IsTup.new _ _⟩

/-! ### t < u, t + u -/
def rLtT (K : PySem.W.Frag) : R2 := fun x y H Q => ∃ a b ns ms, x = .ref a ∧ y = .ref b ∧ SqT K H a (ns.map V.int) ∧ SqT K H b (ms.map V.int) ∧ Q (.bl (HT.lexLt ns ms)) H
theorem op_ltT (hu : X.A.units < cLine) : OpR X (compareOp .Lt) (rLtT X.K) := by
  intro pins s σ H x y v u Q I rx ry h
  obtain ⟨a, b, ns, ms, rfl, rfl, ha, hb, q⟩ := h
  cases rx
  cases ry
  obtain ⟨its, r1, p1, _⟩ := I.tuple ha
  obtain ⟨its2, r2, p2, _⟩ := I.tuple hb
  have i1 : IntsAre its.toArray.toList ns := intsAre_of r1
  have i2 : IntsAre its2.toArray.toList ms := intsAre_of r2
  exact HT.lt_tupInts p1 p2 i1 i2 hu ⟨.bl (HT.lexLt ns ms), H, I, rfl, q⟩
/-- t + u, t not empty: u empty gives t itself -/
def rCatT (K : PySem.W.Frag) : R2 := fun x y H Q => ∃ a b xs ys, x = .ref a ∧ y = .ref b ∧ SqT K H a xs ∧ SqT K H b ys ∧ xs ≠ [] ∧ xs.length + ys.length ≤ sizeLine ∧
  (ys = [] → Q (.ref a) H) ∧ (ys ≠ [] → ∀ p, H p = none → Q (.ref p) (upd H p (.tup (xs ++ ys))))
theorem Vals.nil_iff {xs : List V} {us : List Value} (r : Vals xs us) : us = [] ↔ xs = [] := by
  cases r with
  | nil => simp
  | cons _ _ => simp
theorem op_catT : OpR X (binaryOp .Add) (rCatT X.K) := by
  intro pins s σ H x y v u Q I rx ry h
  obtain ⟨a, b, xs, ys, rfl, rfl, ha, hb, hx, hz, q1, q2⟩ := h
  cases rx
  cases ry
  obtain ⟨its, r1, p1, _⟩ := I.tuple ha
  obtain ⟨its2, r2, p2, _⟩ := I.tuple hb
  refine HT.cat_tup p1 p2 (fun z => hx (r1.nil_iff.mp z)) (fun z => ⟨.ref a, H, I, rfl, q1 (r2.nil_iff.mp z)⟩) (fun z => ?_) (by rw [← r1.length, ← r2.length]; exact hz)
  refine ⟨.ref s.heap.objs.size, _, I.laid (t' := s.toks) (o := .tup (xs ++ ys)) (fun b ob q => Heap.get?_push_of_some _ q) (Nat.le_refl _) ?_, rfl, q2 (fun w => z (r2.nil_iff.mpr w)) _ (I.hok.fresh (Nat.le_refl _))⟩
  exact ⟨by rw [List.length_append]; exact hz, _, r1.append r2, IsTup.new _ _⟩
/-- tuple(t) -/
theorem call_tupleT : CallR X (.type "tuple") (fun xs H Q => ∃ a ys, xs = [.ref a] ∧ SqT X.K H a ys ∧ Q (.ref a) H) := by
  intro pins s σ H xs us Q I r h
  obtain ⟨a, ys, rfl, ha, q⟩ := h
  obtain ⟨u, rfl, ru⟩ := vals1 r
  cases ru
  obtain ⟨its, _, p1, _⟩ := I.tuple ha
  exact call_tuple_same (items := its.toArray) p1 ⟨.ref a, H, I, rfl, q⟩
end
end L2

namespace L2
open PySem PySem.Spec PyProof.Rows

/-! ### places -/
/-- the place that an index of any sign means -/
def ixN (n : Nat) (i : Int) : Option Nat := if 0 ≤ i then (if i < n then some i.toNat else none) else if -(n : Int) ≤ i then some (i + n).toNat else none
def atI {α : Type} (xs : List α) (i : Int) : Option α := (ixN xs.length i).bind fun j => xs[j]?
theorem ixN_seq {n : Nat} {i : Int} {j : Nat} (h : ixN n i = some j) : seqIndex? i n = some j ∧ j < n ∧ -(n : Int) ≤ i ∧ i < n := by
  unfold ixN at h
  by_cases h0 : 0 ≤ i
  · rw [if_pos h0] at h
    by_cases h1 : i < n
    · rw [if_pos h1] at h
      have e : i.toNat = j := Option.some.inj h
      exact ⟨by rw [seqIndex_of h0 h1, e], by omega, by omega, h1⟩
    · rw [if_neg h1] at h; cases h
  · rw [if_neg h0] at h
    by_cases h1 : -(n : Int) ≤ i
    · rw [if_pos h1] at h
      have e : (i + n).toNat = j := Option.some.inj h
      exact ⟨by rw [seqIndex_neg (by omega) h1, e], by omega, h1, by omega⟩
    · rw [if_neg h1] at h; cases h
theorem atI_get {α : Type} {xs : List α} {i : Int} {v : α} (h : atI xs i = some v) : ∃ j, seqIndex? i xs.length = some j ∧ xs[j]? = some v ∧ j < xs.length ∧ -(xs.length : Int) ≤ i ∧ i < xs.length := by
  unfold atI at h
  cases e : ixN xs.length i with
  | none => rw [e] at h; cases h
  | some j =>
    rw [e] at h
    obtain ⟨h1, h2, h3, h4⟩ := ixN_seq e
    exact ⟨j, h1, h, h2, h3, h4⟩
theorem atI_nat {α : Type} {xs : List α} {j : Nat} {v : α} (h : xs[j]? = some v) : atI xs (j : Int) = some v := by
  have hj : j < xs.length := (List.getElem?_eq_some_iff.mp h).1
  have e : ixN xs.length (j : Int) = some j := by
    unfold ixN
    rw [if_pos (by omega), if_pos (by omega)]; simp
  unfold atI; rw [e]; exact h
theorem atI_last {α : Type} (xs : List α) (v : α) : atI (xs ++ [v]) (-1) = some v := by
  have hl : (xs ++ [v]).length = xs.length + 1 := by simp
  have e : ixN (xs ++ [v]).length (-1) = some xs.length := by
    unfold ixN
    rw [hl, if_neg (by decide), if_pos (by omega)]
    congr 1
    omega
  unfold atI
  rw [e]
  show (xs ++ [v])[xs.length]? = some v
  simp

/-! ### what may be subscripted -/
/-- what stands as an index of a plain subscript -/
def PlainIx (b : Expr) : Prop := ∀ o i, subscripted b false o i = operate [o, i] (getItem o i)
/-- a subscript by values -/
def IxR (X : Cx) (r : R2) : Prop :=
  ∀ (value slice : Expr) (pins : List (Addr × Obj)) (s : Shared) (σ : St) (H : Hp) (x y : V) (v u : Value) (Q : VK), Inv X pins σ H s → RelV x v → RelV y u → r x y H Q →
    subscripted slice false v u = operate [v, u] (getItem v u) → wpAny (model X.prog X.w) X.A (subscriptTail value slice v u) (EP X pins σ Q) X.xe s
/-- a call of a builtin's method by values: the receiver, the arguments -/
def MtR (X : Cx) (id : String) (r : V → List V → Hp → VK → Prop) : Prop :=
  ∀ (pins : List (Addr × Obj)) (s : Shared) (σ : St) (H : Hp) (x : V) (xs : List V) (v : Value) (us : List Value) (Q : VK), Inv X pins σ H s → RelV x v → Vals xs us → r x xs H Q →
    wpAny (model X.prog X.w) X.A (call (.builtin id) (v :: us)) (EP X pins σ Q) X.xe s
section
variable {X : Cx} {a b : Expr} {ta tb : TE} {pos : Pos}
theorem IxR.or {r r' : R2} (h : IxR X r) (h' : IxR X r') : IxR X (fun x y H Q => r x y H Q ∨ r' x y H Q) := by
  intro value slice pins s σ H x y v u Q I rx ry q hs
  rcases q with q | q
  · exact h value slice pins s σ H x y v u Q I rx ry q hs
  · exact h' value slice pins s σ H x y v u Q I rx ry q hs
theorem MtR.or {id : String} {r r' : V → List V → Hp → VK → Prop} (h : MtR X id r) (h' : MtR X id r') : MtR X id (fun x xs H Q => r x xs H Q ∨ r' x xs H Q) := by
  intro pins s σ H x xs v us Q I rx rs q
  rcases q with q | q
  · exact h pins s σ H x xs v us Q I rx rs q
  · exact h' pins s σ H x xs v us Q I rx rs q
/-- a[b] -/
theorem pe_ix {r : R2} (hr : IxR X r) (ha : PE X a ta) (hb : PE X b tb) (hs : PlainIx b) : PE X (.Subscript a b pos) (tOp r ta tb) := by
  intro pins s σ H Q I h
  exact Subscript_ (binT ha hb I h fun v u s2 x y H2 I2 rx ry q => hr a b pins s2 σ H2 x y v u Q I2 rx ry q (hs _ _))

def rIxL (K : PySem.W.Frag) : R2 := fun x y H Q => ∃ p xs i v, x = .ref p ∧ y = .int i ∧ SqL K H p xs ∧ atI xs i = some v ∧ Q v H
def rIxT (K : PySem.W.Frag) : R2 := fun x y H Q => ∃ p xs i v, x = .ref p ∧ y = .int i ∧ SqT K H p xs ∧ atI xs i = some v ∧ Q v H
def rIxS : R2 := fun x y H Q => ∃ z i c, x = .str z ∧ y = .int i ∧ z.length ≤ sizeLine ∧ atI z.cps.toList i = some c ∧ Q (.str ⟨#[c]⟩) H
theorem ix_list : IxR X (rIxL X.K) := by
  intro value slice pins s σ H x y v u Q I rx ry h hs
  obtain ⟨p, xs, i, z, rfl, rfl, hq, he, q⟩ := h
  cases rx
  obtain ⟨t, rfl⟩ := ry
  obtain ⟨its, r, pl, hz⟩ := I.list hq
  obtain ⟨j, h1, h2, h3, h4, h5⟩ := atI_get he
  obtain ⟨w, ew, rw'⟩ := r.get h2
  have hl := r.length
  have hn := line63
  have fin : EP X pins σ Q w s := ⟨z, H, I, rw', q⟩
  by_cases h0 : 0 ≤ i
  · have hj : i.toNat = j := by
      rw [seqIndex_of h0 h5] at h1
      exact Option.some.inj h1
    exact item_listR pl.isList h0 (by omega) (by rw [hj]; simpa using ew) fin hs
  · have hj : (i + (its.toArray.size : Int)).toNat = j := by
      rw [seqIndex_neg (by omega) h4] at h1
      rw [List.size_toArray, ← hl]
      exact Option.some.inj h1
    exact subscriptTail_builtinR (x := w) pl.isList.typeIs slot_list_getitem.lookup
      (wpAny_getItem_list_neg (Q := fun r s' => r = w ∧ EP X pins σ Q r s') pl.isList (by omega) (by rw [List.size_toArray] <;> omega) (by omega) (by rw [hj]; simpa using ew) ⟨rfl, fin⟩) hs
theorem ix_tup : IxR X (rIxT X.K) := by
  intro value slice pins s σ H x y v u Q I rx ry h hs
  obtain ⟨p, xs, i, z, rfl, rfl, hq, he, q⟩ := h
  cases rx
  obtain ⟨t, rfl⟩ := ry
  obtain ⟨its, r, pl, hz⟩ := I.tuple hq
  obtain ⟨j, h1, h2, h3, h4, h5⟩ := atI_get he
  obtain ⟨w, ew, rw'⟩ := r.get h2
  have hl := r.length
  have hn := line63
  have fin : EP X pins σ Q w s := ⟨z, H, I, rw', q⟩
  exact subscriptTail_builtinR (x := w) pl.typeIs slot_tuple_getitem.lookup
    (getItem_tuple (j := j) (Q := fun r s' => r = w ∧ EP X pins σ Q r s') pl (by omega) (by omega) (by rw [List.size_toArray, ← hl]; exact h1) (by simpa using ew) ⟨rfl, fin⟩) hs
theorem ix_str : IxR X rIxS := by
  intro value slice pins s σ H x y v u Q I rx ry h hs
  obtain ⟨z, i, c, rfl, rfl, hz, he, q⟩ := h
  obtain ⟨t, rfl⟩ := rx
  obtain ⟨t', rfl⟩ := ry
  obtain ⟨j, h1, h2, h3, h4, h5⟩ := atI_get he
  have hl : z.cps.toList.length = z.length := by simp [Str.length]
  rw [hl] at h1 h4 h5
  have hn := line63
  exact tail_any (typeIs_str s z t) slot_str_getitem.lookup (getItem_str (c := c) (by
    have e1 : decide (i < -(2 ^ 63 : Int)) = false := decide_eq_false (by omega)
    have e2 : decide (i ≥ 2 ^ 63) = false := decide_eq_false (by omega)
    rw [e1, e2, Bool.or_false]) (by rw [h1]; simpa using h2) ⟨.str ⟨#[c]⟩, H, I.tok _, ⟨_, rfl⟩, q⟩) hs
/-- list, tuple or str -/
def rIx (K : PySem.W.Frag) : R2 := fun x y H Q => rIxL K x y H Q ∨ rIxT K x y H Q ∨ rIxS x y H Q
theorem ix_seq : IxR X (rIx X.K) := ix_list.or (ix_tup.or ix_str)

/-! ### xs[i] = v, any sign -/
/-- the list's object behind a store -/
theorem mapSeq_set (its : List Value) (n j : Nat) (u : Value) : Obj.mapSeq (·.setIfInBounds j u) { cls := .type "list", data := .seq its.toArray n } = { cls := .type "list", data := .seq (its.set j u).toArray n } := by
  simp [Obj.mapSeq]
theorem Inv.lst {pins : List (Addr × Obj)} {σ : St} {H : Hp} {s : Shared} {p : Addr} {xs : List V} (I : Inv X pins σ H s) (h : H p = some (.lst xs)) :
    ∃ (its : List Value) (n : Nat), Vals xs its ∧ s.heap.get? p = some { cls := .type "list", data := .seq its.toArray n } ∧ xs.length ≤ sizeLine := by
  obtain ⟨z, its, n, r, e⟩ := I.hok p _ h
  exact ⟨its, n, r, e, z⟩
/-- the list at p is written by an update of its object -/
theorem Inv.lstUpd {pins : List (Addr × Obj)} {σ : St} {H : Hp} {s : Shared} {p : Addr} {xs ys : List V} {its its' : List Value} {n n' : Nat} {f : Obj → Obj} (I : Inv X pins σ H s) (h : H p = some (.lst xs))
    (ho : s.heap.get? p = some { cls := .type "list", data := .seq its.toArray n }) (hf : f { cls := .type "list", data := .seq its.toArray n } = { cls := .type "list", data := .seq its'.toArray n' }) (r : Vals ys its') (hz : ys.length ≤ sizeLine) (t : Nat) :
    Inv X pins σ (upd H p (.lst ys)) { s with heap := s.heap.update p f, toks := t } := by
  have e : (s.heap.update p f).get? p = some { cls := .type "list", data := .seq its'.toArray n' } := by
    rw [Heap.get?_update_self f ho (by rw [hf] <;> rfl), hf]
  refine I.write (x := p) (e := p) (by rw [h]; trivial) (.inl rfl) (fun b u hb q => (Heap.get?_update_other _ _ (Ne.symm hb)).trans q) ⟨_, e⟩ ?_
  exact ⟨hz, its', n', r, e⟩
def rSetL : V → V → V → Hp → (Hp → Prop) → Prop := fun o i v H Q => ∃ p xs k j, o = .ref p ∧ i = .int k ∧ H p = some (.lst xs) ∧ ixN xs.length k = some j ∧ Q (upd H p (.lst (xs.set j v)))
theorem set_list : PSet X rSetL := by
  intro pins s σ H o i v ov iv u Q I ro ri rv h
  obtain ⟨p, xs, k, j, rfl, rfl, hp, hj, q⟩ := h
  cases ro
  obtain ⟨t, rfl⟩ := ri
  obtain ⟨its, n, r, ho, hz⟩ := I.lst hp
  obtain ⟨h1, h2, h3, h4⟩ := ixN_seq hj
  have hl := r.length
  have hn := line63
  have I' : Inv X pins σ (upd H p (.lst (xs.set j v))) { s with heap := s.heap.update p (Obj.mapSeq (·.setIfInBounds j u)) } :=
    I.lstUpd hp ho (mapSeq_set its n j u) (r.set rv j) (by rw [List.length_set]; exact hz) s.toks
  by_cases h0 : 0 ≤ k
  · have hk : k.toNat = j := by
      rw [seqIndex_of h0 h4] at h1
      exact Option.some.inj h1
    exact PySem.W.ki_setAt ho h0 (by omega) (by rw [List.size_toArray, ← hl]; exact h4) (by rw [hk]; exact ⟨_, I', q⟩)
  · have hk : (k + (its.toArray.size : Int)).toNat = j := by
      rw [seqIndex_neg (by omega) h3] at h1
      rw [List.size_toArray, ← hl]
      exact Option.some.inj h1
    exact PySem.W.ki_setBack ho (by omega) (by rw [List.size_toArray, ← hl]; exact h3) (by omega) (by rw [hk]; exact ⟨_, I', q⟩)

/-! ### slices -/
theorem slice_bounds (lo hi : Option Int) (n : Nat) : (sliceBounds lo hi none n).1 = ((HT.sIx n 0 lo : Nat) : Int) ∧ (sliceBounds lo hi none n).2.1 = ((HT.sIx n n hi : Nat) : Int) ∧ (sliceBounds lo hi none n).2.2 = 1 := by
  refine ⟨?_, ?_, rfl⟩
  · cases lo with
    | none => simp [sliceBounds, HT.sIx]
    | some i =>
      simp only [sliceBounds, HT.sIx, Option.getD_none, show (1 : Int) > 0 by decide, if_true]
      by_cases h : i < 0
      · simp only [h, if_true] <;> omega
      · simp only [h, if_false] <;> omega
  · cases hi with
    | none => simp [sliceBounds, HT.sIx]
    | some i =>
      simp only [sliceBounds, HT.sIx, Option.getD_none, show (1 : Int) > 0 by decide, if_true]
      by_cases h : i < 0
      · simp only [h, if_true] <;> omega
      · simp only [h, if_false] <;> omega
theorem slicePick_cut (its : List Value) (lo hi : Option Int) : slicePick its.toArray lo hi none = ((its.drop (HT.sIx its.length 0 lo)).take (HT.sIx its.length its.length hi - HT.sIx its.length 0 lo)).toArray := by
  obtain ⟨h1, h2, h3⟩ := slice_bounds lo hi its.toArray.size
  unfold slicePick
  rw [h1, h2, h3]
  simp only [sliceRange_one, pick_run, List.size_toArray] <;> rfl
/-- xs[lo:hi] of a list: a new list -/
def rSlL (K : PySem.W.Frag) : V → Option Int → Option Int → Hp → VK → Prop := fun x lo hi H Q => ∃ a xs, x = .ref a ∧ SqL K H a xs ∧ ∀ p, H p = none → Q (.ref p) (upd H p (.lst (cutV xs lo hi)))
theorem sl_list : SlR X (rSlL X.K) := by
  intro pins s σ H x v vl vu lo hi sl Q I rx hs pl pu h
  obtain ⟨a, xs, rfl, hx, q⟩ := h
  cases rx
  obtain ⟨its, r, ht, hz⟩ := I.list hx
  have hlen := r.length
  refine ⟨"list", _, slot_list_getitem.lookup, ht.isList.typeIs, ?_⟩
  refine wpAny_getItem_list_slice ht.isList hs pl pu .none (by simp) ?_ (by rw [List.size_toArray] <;> omega)
  rw [slicePick_cut, ← hlen]
  refine ⟨.ref s.heap.objs.size, _, I.laid (t' := s.toks) (o := .lst (cutV xs lo hi)) (fun b ob q => Heap.get?_push_of_some _ q) (Nat.le_refl _) ?_, rfl, q _ (I.hok.fresh (Nat.le_refl _))⟩
  exact ⟨Nat.le_trans (cutV_length xs lo hi) hz, _, 0, (r.drop (HT.sIx xs.length 0 lo)).take (HT.sIx xs.length xs.length hi - HT.sIx xs.length 0 lo), Heap.get?_push_size _ rfl⟩

/-! ### in, not in: flat items -/
def flatV : V → Bool
  | .non => true
  | .bl _ => true
  | .int _ => true
  | .str _ => true
  | _ => false
/-- == of flat values -/
def eqV : V → V → Bool
  | .non, .non => true
  | .bl a, .bl b => a == b
  | .bl a, .int b => (if a then 1 else 0) == b
  | .int a, .bl b => a == (if b then 1 else 0)
  | .int a, .int b => a == b
  | .str a, .str b => a == b
  | _, _ => false
theorem eqAt_V {A : Around} {s : Shared} {y x : V} {u v : Value} (ry : RelV y u) (rx : RelV x v) (fy : flatV y = true) (fx : flatV x = true) : SeqAt.EqAt A s u v (eqV y x) := by
  cases y with
  | non =>
    cases ry
    cases x with
    | non => cases rx; exact SeqAt.EqAt.same _
    | bl b => cases rx; exact SeqAt.EqAt.none_bool b
    | int b => obtain ⟨t, rfl⟩ := rx; exact SeqAt.EqAt.none_int b t
    | str b => obtain ⟨t, rfl⟩ := rx; exact SeqAt.EqAt.none_str b t
    | _ => exact absurd (show false = true from fx) Bool.false_ne_true
  | bl a =>
    cases ry
    cases x with
    | non => cases rx; exact SeqAt.EqAt.bool_none a
    | bl b => cases rx; exact SeqAt.EqAt.bool_bool a b
    | int b => obtain ⟨t, rfl⟩ := rx; exact SeqAt.EqAt.bool_int a b t
    | str b => obtain ⟨t, rfl⟩ := rx; exact SeqAt.EqAt.bool_str a b t
    | _ => exact absurd (show false = true from fx) Bool.false_ne_true
  | int a =>
    obtain ⟨t', rfl⟩ := ry
    cases x with
    | non => cases rx; exact SeqAt.EqAt.int_none a t'
    | bl b => cases rx; exact SeqAt.EqAt.int_bool a t' b
    | int b => obtain ⟨t, rfl⟩ := rx; exact SeqAt.EqAt.int_int a t' b t
    | str b => obtain ⟨t, rfl⟩ := rx; exact SeqAt.EqAt.int_str a t' b t
    | _ => exact absurd (show false = true from fx) Bool.false_ne_true
  | str a =>
    obtain ⟨t', rfl⟩ := ry
    cases x with
    | non => cases rx; exact SeqAt.EqAt.str_none a t'
    | bl b => cases rx; exact SeqAt.EqAt.str_bool a t' b
    | int b => obtain ⟨t, rfl⟩ := rx; exact SeqAt.EqAt.str_int a t' b t
    | str b => obtain ⟨t, rfl⟩ := rx; exact SeqAt.EqAt.str_str a t' b t
    | _ => exact absurd (show false = true from fx) Bool.false_ne_true
  | _ => exact absurd (show false = true from fy) Bool.false_ne_true
/-- the items' answers, read off the values (a value's own answer does not lean on its token) -/
def eqU (x : V) (u : Value) : Bool := match u with
  | .none => eqV .non x
  | .bool b => eqV (.bl b) x
  | .int i _ => eqV (.int i) x
  | .str z _ => eqV (.str z) x
  | _ => false
theorem eqU_of {x y : V} {u : Value} (r : RelV y u) (f : flatV y = true) : eqU x u = eqV y x := by
  cases y with
  | non => cases r; rfl
  | bl b => cases r; rfl
  | int i => obtain ⟨t, rfl⟩ := r; rfl
  | str z => obtain ⟨t, rfl⟩ := r; rfl
  | _ => exact absurd (show false = true from f) Bool.false_ne_true
theorem any_eqU {x : V} : ∀ {xs : List V} {us : List Value}, Vals xs us → xs.all flatV = true → us.any (eqU x) = xs.any fun y => eqV y x
  | _, _, .nil, _ => rfl
  | y :: xs, u :: us, .cons r t, f => by
    rw [List.all_cons, Bool.and_eq_true] at f
    rw [List.any_cons, List.any_cons, eqU_of r f.1, any_eqU t f.2]
theorem mem_eqAt {A : Around} {s : Shared} {x : V} {v : Value} (rx : RelV x v) (fx : flatV x = true) : ∀ {xs : List V} {us : List Value}, Vals xs us → xs.all flatV = true → ∀ u ∈ us, SeqAt.EqAt A s u v (eqU x u)
  | _, _, .nil, _ => fun u hu => by cases hu
  | y :: xs, u :: us, .cons r t, f => fun u' hu => by
    rw [List.all_cons, Bool.and_eq_true] at f
    rcases List.mem_cons.mp hu with rfl | hu
    · rw [eqU_of r f.1]; exact eqAt_V r rx f.1 fx
    · exact mem_eqAt rx fx t f.2 u' hu
def inV (x : V) (xs : List V) : Bool := xs.any fun y => eqV y x
/-- x in a list or tuple of flat items -/
def rIn (K : PySem.W.Frag) (neg : Bool) : R2 := fun x y H Q => ∃ p xs, y = .ref p ∧ (SqL K H p xs ∨ SqT K H p xs) ∧ flatV x = true ∧ xs.all flatV = true ∧ Q (.bl (if neg then !inV x xs else inV x xs)) H
theorem op_in_seq : OpR X (compareOp .In) (rIn X.K false) := by
  intro pins s σ H x y v u Q I rx ry h
  obtain ⟨p, xs, rfl, hq, fx, fs, q⟩ := h
  cases ry
  rcases hq with hq | hq
  · obtain ⟨its, r, pl, hz⟩ := I.list hq
    refine SeqAt.in_listAt (eqU x) pl.isList (fun w hw => mem_eqAt rx fx r fs w (by simpa using hw)) ⟨.bl _, H, I, rfl, ?_⟩
    rw [show its.toArray.any (eqU x) = its.any (eqU x) by simp, any_eqU r fs]
    exact q
  · obtain ⟨its, r, pl, hz⟩ := I.tuple hq
    refine SeqAt.in_tupleAt (eqU x) pl (fun w hw => mem_eqAt rx fx r fs w (by simpa using hw)) ⟨.bl _, H, I, rfl, ?_⟩
    rw [show its.toArray.any (eqU x) = its.any (eqU x) by simp, any_eqU r fs]
    exact q
theorem op_notIn_seq : OpR X (compareOp .NotIn) (rIn X.K true) := by
  intro pins s σ H x y v u Q I rx ry h
  obtain ⟨p, xs, rfl, hq, fx, fs, q⟩ := h
  cases ry
  rcases hq with hq | hq
  · obtain ⟨its, r, pl, hz⟩ := I.list hq
    refine SeqAt.notIn_listAt (eqU x) pl.isList (fun w hw => mem_eqAt rx fx r fs w (by simpa using hw)) ⟨.bl _, H, I, rfl, ?_⟩
    rw [show its.toArray.any (eqU x) = its.any (eqU x) by simp, any_eqU r fs]
    exact q
  · obtain ⟨its, r, pl, hz⟩ := I.tuple hq
    refine SeqAt.notIn_tupleAt (eqU x) pl (fun w hw => mem_eqAt rx fx r fs w (by simpa using hw)) ⟨.bl _, H, I, rfl, ?_⟩
    rw [show its.toArray.any (eqU x) = its.any (eqU x) by simp, any_eqU r fs]
    exact q
theorem op_notIn_str : OpR X (compareOp .NotIn) (fun x y H Q => ∃ i j, x = .str i ∧ y = .str j ∧ Q (.bl (!(!(Builtin.Str.occurrences j i 0 j.length 1).isEmpty))) H) := by
  intro pins s σ H x y v u Q I rx ry h
  obtain ⟨i, j, rfl, rfl, q⟩ := h
  obtain ⟨t, rfl⟩ := rx
  obtain ⟨t', rfl⟩ := ry
  exact notIn_str ⟨.bl _, H, I, rfl, q⟩

/-! ### len, list(x), tuple(x) of any list or tuple that is read -/
theorem call_len_seq : CallR X (.builtin "len") (fun xs H Q => ∃ p ys, xs = [.ref p] ∧ (SqL X.K H p ys ∨ SqT X.K H p ys) ∧ Q (.int ys.length) H) := by
  intro pins s σ H xs us Q I r h
  obtain ⟨p, ys, rfl, hq, q⟩ := h
  obtain ⟨u, rfl, rx⟩ := vals1 r
  cases rx
  have hn := line63
  rcases hq with hq | hq
  · obtain ⟨its, r', pl, hz⟩ := I.list hq
    have hlen := r'.length
    exact Calls.call_len_list pl.isList (by simp only [List.size_toArray] <;> omega) ⟨.int ys.length, H, I.tok _, ⟨s.toks + 1, by rw [List.size_toArray, hlen]⟩, q⟩
  · obtain ⟨its, r', pl, hz⟩ := I.tuple hq
    have hlen := r'.length
    exact len_tuple pl (by simp only [List.size_toArray] <;> omega) ⟨.int ys.length, H, I.tok _, ⟨s.toks + 1, by rw [List.size_toArray, hlen]⟩, q⟩
theorem call_len_str : CallR X (.builtin "len") (fun xs H Q => ∃ z, xs = [.str z] ∧ z.length ≤ sizeLine ∧ Q (.int z.length) H) := by
  intro pins s σ H xs us Q I r h
  obtain ⟨z, rfl, hz, q⟩ := h
  obtain ⟨u, rfl, t, rfl⟩ := vals1 r
  have hn := line63
  exact len_str (by omega) ⟨.int z.length, H, I.tok _, ⟨_, rfl⟩, q⟩
theorem CallR.or {f : Value} {r r' : List V → Hp → VK → Prop} (h : CallR X f r) (h' : CallR X f r') : CallR X f (fun xs H Q => r xs H Q ∨ r' xs H Q) := by
  intro pins s σ H xs us Q I rs q
  rcases q with q | q
  · exact h pins s σ H xs us Q I rs q
  · exact h' pins s σ H xs us Q I rs q
theorem call_list_of : CallR X (.type "list") (fun xs H Q => ∃ p ys, xs = [.ref p] ∧ (SqL X.K H p ys ∨ SqT X.K H p ys) ∧ ∀ l, H l = none → Q (.ref l) (upd H l (.lst ys))) := by
  intro pins s σ H xs us Q I r h
  obtain ⟨p, ys, rfl, hq, q⟩ := h
  obtain ⟨u, rfl, rx⟩ := vals1 r
  cases rx
  have fin : ∀ (its : List Value), Vals ys its → ys.length ≤ sizeLine → ∀ (h' : Heap) (c' : Nat), (∀ b o', s.heap.get? b = some o' → h'.get? b = some o') →
      h'.get? s.heap.objs.size = some { cls := .type "list", dict := none, data := .seq its.toArray c', slots := #[] } → EP X pins σ Q (.ref s.heap.objs.size) { s with heap := h' } := fun its r' hz h' c' kp e =>
    ⟨.ref s.heap.objs.size, _, I.laid (t' := s.toks) kp (Nat.le_refl _) (show ObjOk X.prog X.w _ h' _ (.lst ys) from ⟨hz, its, c', r', e⟩), rfl, q _ (I.hok.fresh (Nat.le_refl _))⟩
  rcases hq with hq | hq
  · obtain ⟨its, r', pl, hz⟩ := I.list hq
    have hlen := r'.length
    obtain ⟨o, ho, hc, n, hd⟩ := pl.isList
    exact call_list_seq p (.inl rfl) ho hc hd (fun h' c' kp e => fin its r' hz h' c' kp e) (by simp only [List.size_toArray] <;> omega)
  · obtain ⟨its, r', pl, hz⟩ := I.tuple hq
    have hlen := r'.length
    obtain ⟨o, ho, hc, n, hd⟩ := pl
    exact call_list_seq p (.inr rfl) ho hc hd (fun h' c' kp e => fin its r' hz h' c' kp e) (by simp only [List.size_toArray] <;> omega)
theorem call_tuple_of : CallR X (.type "tuple") (fun xs H Q => ∃ p ys, xs = [.ref p] ∧ ((SqL X.K H p ys ∧ ∀ l, H l = none → Q (.ref l) (upd H l (.tup ys))) ∨ (SqT X.K H p ys ∧ Q (.ref p) H))) := by
  intro pins s σ H xs us Q I r h
  obtain ⟨p, ys, rfl, h⟩ := h
  obtain ⟨u, rfl, rx⟩ := vals1 r
  cases rx
  rcases h with ⟨hq, q⟩ | ⟨hq, q⟩
  · obtain ⟨its, r', pl, hz⟩ := I.list hq
    have hlen := r'.length
    refine call_tuple_list pl.isList (fun h' kp => ?_) (by simp only [List.size_toArray] <;> omega)
    have I1 : Inv X pins σ H { s with heap := h' } := I.kept (t' := s.toks) kp
    have I2 : Inv X pins σ (upd H h'.objs.size (.tup ys)) { s with heap := h'.push { cls := .type "tuple", data := .seq its.toArray } } :=
      I1.laid (t' := s.toks) (fun b o e => Heap.get?_push_of_some _ e) (Nat.le_refl _) (show ObjOk X.prog X.w _ _ _ (.tup ys) from ⟨hz, its, r', IsTup.new _ _⟩)
    exact ⟨.ref h'.objs.size, _, I2, rfl, q _ (I1.hok.fresh (Nat.le_refl _))⟩
  · obtain ⟨its, r', pl, hz⟩ := I.tuple hq
    exact call_tuple_same pl ⟨.ref p, H, I, rfl, q⟩

/-! ### the call of a builtin's method: o.m(..) -/
/-- the value is of that builtin type -/
def tyV (K : PySem.W.Frag) (T : String) (x : V) (H : Hp) : Prop := match x with
  | .str _ => T = "str"
  | .int _ => T = "int"
  | .ref p => (T = "list" ∧ ∃ xs, SqL K H p xs) ∨ (T = "tuple" ∧ ∃ o, K.lookup p = some o ∧ o.cls = .type "tuple" ∧ o.dict = none) ∨
      (T = "dict" ∧ ((∃ kvs, H p = some (.dK kvs)) ∨ ∃ kvs, H p = some (.dT kvs))) ∨ (T = "set" ∧ ∃ S n, H p = some (.set S n))
  | _ => False
theorem tyV_is {pins : List (Addr × Obj)} {σ : St} {H : Hp} {s : Shared} {T : String} {x : V} {v : Value} (I : Inv X pins σ H s) (r : RelV x v) (ty : tyV X.K T x H) :
    s.TypeIs v T ∧ ∀ a, v = .ref a → ∃ ob, s.heap.get? a = some ob ∧ ob.dict = none := by
  cases x with
  | str z =>
    obtain ⟨t, rfl⟩ := r
    cases (show T = "str" from ty)
    exact ⟨typeIs_str s z t, fun _ e => nomatch e⟩
  | int i =>
    obtain ⟨t, rfl⟩ := r
    cases (show T = "int" from ty)
    exact ⟨typeIs_int s i t, fun _ e => nomatch e⟩
  | ref p =>
    cases r
    rcases ty with ⟨rfl, xs, hq⟩ | ⟨rfl, o, hk, hc, hd⟩ | ⟨rfl, hk⟩ | ⟨rfl, S, n, hk⟩
    · obtain ⟨its, _, pl, _⟩ := I.list hq
      refine ⟨pl.isList.typeIs, fun a e => ?_⟩
      cases e
      obtain ⟨o, n, e, c, hd, _⟩ := pl
      exact ⟨o, e, hd⟩
    · refine ⟨⟨o, I.kIn p o hk, hc⟩, fun a e => ?_⟩
      cases e
      exact ⟨o, I.kIn _ o hk, hd⟩
    · have z : ∃ o, s.heap.get? p = some o ∧ o.ExactDict := by
        rcases hk with ⟨kvs, hk⟩ | ⟨kvs, hk⟩
        · obtain ⟨_, _, _, _, o, _, _, e, ex, _⟩ := I.hok p _ hk
          exact ⟨o, e, ex⟩
        · obtain ⟨_, _, _, _, o, _, _, e, ex, _⟩ := I.hok p _ hk
          exact ⟨o, e, ex⟩
      obtain ⟨o, e, ex⟩ := z
      refine ⟨⟨o, e, ex.1⟩, fun a e2 => ?_⟩
      cases e2
      exact ⟨o, e, ex.2.1⟩
    · obtain ⟨o, _, _, _, e, ex, _⟩ := I.hok p _ hk
      refine ⟨⟨o, e, ex.1⟩, fun a e2 => ?_⟩
      cases e2
      exact ⟨o, e, ex.2.1⟩
  | _ => exact False.elim ty
def tBM0 (K : PySem.W.Frag) (T : String) (r : V → List V → Hp → VK → Prop) (to : TE) : TE := fun σ H Q => to σ H fun x H1 => tyV K T x H1 ∧ r x [] H1 Q
def tBM (K : PySem.W.Frag) (T : String) (r : V → List V → Hp → VK → Prop) (to : TE) (t : TA) : TE := fun σ H Q => to σ H fun x H1 => tyV K T x H1 ∧ t σ H1 fun xs H2 => r x xs H2 Q
variable {o e : Expr} {es : List Expr} {to : TE} {t : TA} {name : Str} {apos cpos : Pos} {T id : String} {r : V → List V → Hp → VK → Prop}
theorem pe_bm0 (pa : PlainAttrs T) (slot : Slot T name id) (hty : typeOf (.builtin id) = pure (.type "method_descriptor")) (hm : MtR X id r) (ho : PE X o to)
    (hbase : attributeBase o name X.env (eval o X.env) = eval o X.env := by rfl) (hline : (apos.endLine == cpos.line) = true := by rfl) : PE X (.Call (.Attribute o name apos) [] [] cpos) (tBM0 X.K T r to) := by
  intro pins s σ H Q I h
  refine wpAny_Call_method0_late hbase hline (thn (ho pins s σ H _ I h) fun v s1 ⟨x, H1, I1, r1, ty, q1⟩ => ?_)
  obtain ⟨h1, h2⟩ := tyV_is I1 r1 ty
  exact ⟨T, id, pa, slot, hty, h1, h2, Calls.callWith_builtin rfl (PySem.evalArgs_none (hm pins s1 σ H1 x [] v [] Q I1 r1 .nil q1))⟩
theorem pe_bm (pa : PlainAttrs T) (slot : Slot T name id) (hty : typeOf (.builtin id) = pure (.type "method_descriptor")) (hm : MtR X id r) (ho : PE X o to) (ha : PA X (e :: es) t)
    (hbase : attributeBase o name X.env (eval o X.env) = eval o X.env := by rfl)
    (hfew : ((backTo cpos (starEach (e :: es) X.env)).all (fun x => !x.1) && (backToKw cpos (keywordEach [] X.env)).all (fun x => x.1.isSome)
      && decide ((e :: es).length + ([] : List Keyword).length + (if ([] : List Keyword).isEmpty then 0 else 1) < 30)) = true := by rfl)
    (hline : (apos.endLine == cpos.line) = true := by rfl) (hs : starEach (e :: es) X.env = (false, eval e X.env) :: starEach es X.env := by rfl) (hplain : (backTo cpos (starEach es X.env)).any (·.1) = false := by rfl) :
    PE X (.Call (.Attribute o name apos) (e :: es) [] cpos) (tBM X.K T r to t) := by
  intro pins s σ H Q I h
  refine wpAny_Call_method_late hbase hfew hline rfl (thn (ho pins s σ H _ I h) fun v s1 ⟨x, H1, I1, r1, ty, q1⟩ => ?_)
  obtain ⟨h1, h2⟩ := tyV_is I1 r1 ty
  refine ⟨T, id, pa, slot, hty, h1, h2, ?_⟩
  have hA := ha cpos pins s1 σ H1 _ I1 q1
  rw [hs] at hA ⊢
  refine Calls.callWith_builtin (by show (false || (backTo cpos (starEach es X.env)).any (·.1)) = false; rw [hplain] <;> rfl) (Calls.evalArgs_plain ?_)
  exact thn hA fun us s2 ⟨vs, H2, I2, r2, q2⟩ => hm pins s2 σ H2 x vs v us Q I2 r1 r2 q2
/- xs.append(e), list.index on a module's tuple .. are MtR facts of 06m -/
end
end L2

namespace L2
open PySem PySem.Spec PyProof.Rows

def MtM (X : Cx) (id : String) (r : V → List V → Hp → VK → Prop) : Prop :=
  ∀ (pins : List (Addr × Obj)) (s : Shared) (σ : St) (H : Hp) (x : V) (xs : List V) (v : Value) (us : List Value) (Q : VK), Inv X pins σ H s → RelV x v → Vals xs us → r x xs H Q →
    wpAny (model X.prog X.w) X.A (call (.builtin id) (v :: us)) (EP X pins σ Q) X.xe s

/-! ### lists of values -/
theorem Vals.one : ∀ {x : V} {us : List Value}, Vals [x] us → ∃ u, us = [u] ∧ RelV x u
  | _, _, .cons r .nil => ⟨_, rfl, r⟩
theorem Vals.two : ∀ {x y : V} {us : List Value}, Vals [x, y] us → ∃ u v, us = [u, v] ∧ RelV x u ∧ RelV y v
  | _, _, _, .cons r (.cons q .nil) => ⟨_, _, rfl, r, q⟩
theorem Vals.zero : ∀ {us : List Value}, Vals [] us → us = []
  | _, .nil => rfl
theorem Vals.dropLast {xs : List V} {us : List Value} (h : Vals xs us) : Vals xs.dropLast us.dropLast := by
  induction h with
  | nil => exact .nil
  | cons r t ih =>
    cases t with
    | nil => exact .nil
    | cons q t' => exact .cons r ih
theorem Vals.eraseIdx : ∀ {xs : List V} {us : List Value} (i : Nat), Vals xs us → Vals (xs.eraseIdx i) (us.eraseIdx i)
  | _, _, _, .nil => .nil
  | _, _, 0, .cons _ t => t
  | _, _, i + 1, .cons r t => .cons r (Vals.eraseIdx i t)
theorem Vals.reverse {xs : List V} {us : List Value} (h : Vals xs us) : Vals xs.reverse us.reverse := by
  induction h with
  | nil => exact .nil
  | cons r t ih => rw [List.reverse_cons, List.reverse_cons]; exact Vals.append ih (.cons r .nil)
theorem Vals.rep {xs : List V} {us : List Value} (h : Vals xs us) : ∀ k : Nat, Vals (List.replicate k xs).flatten (List.replicate k us).flatten
  | 0 => .nil
  | k + 1 => by
    rw [List.replicate_succ, List.replicate_succ, List.flatten_cons, List.flatten_cons]
    exact Vals.append h (Vals.rep h k)
theorem erase_last {α : Type} (l : List α) : l.eraseIdx (l.length - 1) = l.dropLast := by
  induction l with
  | nil => rfl
  | cons a r ih =>
    cases r with
    | nil => rfl
    | cons b r =>
      have e : (a :: b :: r).length - 1 = ((b :: r).length - 1) + 1 := by
        have h1 : (a :: b :: r).length = r.length + 2 := rfl
        have h2 : (b :: r).length = r.length + 1 := rfl
        omega
      rw [e, List.eraseIdx_cons_succ, ih]
      all_goals rfl
theorem len_erase {α : Type} : ∀ (l : List α) (i : Nat), (l.eraseIdx i).length ≤ l.length
  | [], _ => Nat.le_refl _
  | _ :: _, 0 => Nat.le_succ _
  | _ :: r, i + 1 => Nat.succ_le_succ (len_erase r i)
theorem foldl_rep (its : List Value) : ∀ (k : Nat) (acc : List Value),
    List.foldl (fun x1 x2 => x1 ++ x2) acc.toArray (List.replicate k its.toArray) = (acc ++ (List.replicate k its).flatten).toArray
  | 0, acc => by simp
  | k + 1, acc => by
    have e : acc.toArray ++ its.toArray = (acc ++ its).toArray := by simp
    have e2 : (acc ++ its) ++ (List.replicate k its).flatten = acc ++ (List.replicate (k + 1) its).flatten := by
      rw [List.replicate_succ, List.flatten_cons, List.append_assoc]
    rw [← e2, ← foldl_rep its k (acc ++ its), ← e, List.replicate_succ, List.foldl_cons]

section
variable {X : Cx} {pins : List (Addr × Obj)} {σ : St} {H : Hp} {s : Shared} {l b : Addr} {xs ys zs : List V}

/-! ### the two steps: a tracked list is rewritten, a new list is laid -/
theorem Inv.lset {its its' : List Value} {n : Nat} {f : Array Value → Array Value} {t' : Nat} (I : Inv X pins σ H s) (hH : H l = some (.lst xs))
    (e : s.heap.get? l = some { cls := .type "list", data := .seq its.toArray n }) (hf : f its.toArray = its'.toArray) (hv : Vals ys its') (hz : ys.length ≤ sizeLine) :
    Inv X pins σ (upd H l (.lst ys)) { s with heap := s.heap.update l (Obj.mapSeq f), toks := t' } := by
  have q := PySem.IsL.update e f
  rw [hf] at q
  refine I.write (x := l) (e := l) (by rw [hH]; exact trivial) (.inl rfl) (fun b' u hb hu => (Heap.get?_update_other s.heap (Obj.mapSeq f) (Ne.symm hb)).trans hu) ⟨_, q⟩ ?_
  exact ⟨hz, its', _, hv, q⟩
theorem Inv.lnew {its : List Value} {t' : Nat} (I : Inv X pins σ H s) (hv : Vals ys its) (hz : ys.length ≤ sizeLine) :
    Inv X pins σ (upd H s.heap.objs.size (.lst ys)) { s with heap := s.heap.push { cls := .type "list", data := .seq its.toArray }, toks := t' } :=
  I.laid (fun _ _ q => Heap.get?_push_of_some _ q) (Nat.le_refl _) ⟨hz, its, 0, hv, Heap.get?_push_size _ rfl⟩
theorem Inv.fresh (I : Inv X pins σ H s) : H s.heap.objs.size = none := I.hok.fresh (Nat.le_refl _)
theorem Inv.lstM (I : Inv X pins σ H s) (hH : H l = some (.lst xs)) : xs.length ≤ sizeLine ∧ ∃ (its : List Value) (n : Nat), Vals xs its ∧ xs.length = its.length ∧ s.heap.get? l = some { cls := .type "list", data := .seq its.toArray n } := by
  obtain ⟨z, its, n, r, e⟩ := I.hok l _ hH
  exact ⟨z, its, n, r, r.length, e⟩

theorem notLongL {n : Nat} (h : n ≤ sizeLine) : Builtin.List.listTooLong n = false := by
  unfold Builtin.List.listTooLong
  exact decide_eq_false (by omega)
end

section
variable {X : Cx}

/-! ### methods -/
def rAppend : V → List V → Hp → VK → Prop := fun x vs H Q => ∃ l xs y, x = .ref l ∧ vs = [y] ∧ H l = some (.lst xs) ∧ xs.length < sizeLine ∧ Q .non (upd H l (.lst (xs ++ [y])))
theorem mt_append : MtM X "list.append" rAppend := by
  intro pins s σ H x vs v us Q I rx rv h
  obtain ⟨l, xs, y, rfl, rfl, hH, hz, q⟩ := h
  cases rx
  obtain ⟨u, rfl, ru⟩ := rv.one
  obtain ⟨z, its, n, r, hl, e⟩ := I.lstM hH
  refine call_meets F.slot_list_append ⟨_, e, rfl⟩ F.entry_list_append (F.args_list_append_2 _ _) (PySem.list_append l its.toArray n u (by rw [List.size_toArray]; omega)) ⟨e, ?_⟩
  refine ⟨.non, _, I.lset (its' := its ++ [u]) hH e (by simp) (r.append (.cons ru .nil)) ?_, rfl, q⟩
  rw [List.length_append, List.length_singleton]
  omega

def rExtend : V → List V → Hp → VK → Prop := fun x vs H Q => ∃ l b xs zs, x = .ref l ∧ vs = [.ref b] ∧ H l = some (.lst xs) ∧ H b = some (.lst zs) ∧ xs.length + zs.length ≤ sizeLine ∧ Q .non (upd H l (.lst (xs ++ zs)))
theorem mt_extend : MtM X "list.extend" rExtend := by
  intro pins s σ H x vs v us Q I rx rv h
  obtain ⟨l, b, xs, zs, rfl, rfl, hH, hB, hz, q⟩ := h
  cases rx
  obtain ⟨u, rfl, ru⟩ := rv.one
  cases ru
  obtain ⟨z, its, n, r, hl, e⟩ := I.lstM hH
  obtain ⟨z2, its2, n2, r2, hl2, e2⟩ := I.lstM hB
  have hsz : its.toArray.size + its2.toArray.size ≤ sizeLine := by rw [List.size_toArray, List.size_toArray]; omega
  have hlong : ¬ (!its.toArray.isEmpty && Builtin.List.listTooLong (its.toArray.size + its2.toArray.size)) = true := by
    rw [notLongL hsz, Bool.and_false]
    exact Bool.false_ne_true
  refine call_meets F.slot_list_extend ⟨_, e, rfl⟩ F.entry_list_extend (F.args_list_extend_2 _ _)
    (AutoSeq1.list_extend_list_list_0 l its.toArray n b its2.toArray n2 hlong (by rw [List.size_toArray]; omega) (by omega)) ⟨e, e2, ?_⟩
  refine ⟨.non, _, I.lset (its' := its ++ its2) hH e (by simp) (r.append r2) ?_, rfl, q⟩
  rw [List.length_append]
  omega

def rPop : V → List V → Hp → VK → Prop := fun x vs H Q => ∃ l xs y, x = .ref l ∧ vs = [] ∧ H l = some (.lst xs) ∧ xs[xs.length - 1]? = some y ∧ Q y (upd H l (.lst xs.dropLast))
theorem mt_pop : MtM X "list.pop" rPop := by
  intro pins s σ H x vs v us Q I rx rv h
  obtain ⟨l, xs, y, rfl, rfl, hH, hy, q⟩ := h
  cases rx
  have hus := rv.zero
  subst hus
  obtain ⟨z, its, n, r, hl, e⟩ := I.lstM hH
  obtain ⟨u, hu, ru⟩ := r.get hy
  have hy' : its.toArray[its.toArray.size - 1]? = some u := by
    show its.toArray[its.length - 1]? = some u
    rw [← Array.getElem?_toList, ← hl]
    exact hu
  refine call_meets F.slot_list_pop ⟨_, e, rfl⟩ F.entry_list_pop (F.args_list_pop_1 _) (MeetsSeq.list_pop_last l its.toArray n u hy' (by rw [List.size_toArray]; omega)) ⟨e, ?_⟩
  refine ⟨y, _, I.lset (its' := its.dropLast) hH e ?_ r.dropLast ?_, ru, q⟩
  · show its.toArray.eraseIdxIfInBounds (its.toArray.size - 1) = its.dropLast.toArray
    rw [List.size_toArray, List.eraseIdxIfInBounds_toArray, erase_last]
  · rw [List.length_dropLast]
    omega

def rPopAt : V → List V → Hp → VK → Prop := fun x vs H Q => ∃ l xs i k y, x = .ref l ∧ vs = [.int i] ∧ H l = some (.lst xs) ∧ -(2 ^ 63) ≤ i ∧ i < 2 ^ 63 ∧ seqIndex? i xs.length = some k ∧ xs[k]? = some y ∧ Q y (upd H l (.lst (xs.eraseIdx k)))
theorem mt_popAt : MtM X "list.pop" rPopAt := by
  intro pins s σ H x vs v us Q I rx rv h
  obtain ⟨l, xs, i, k, y, rfl, rfl, hH, h1, h2, hk, hy, q⟩ := h
  cases rx
  obtain ⟨u, rfl, ru⟩ := rv.one
  obtain ⟨t, rfl⟩ := ru
  obtain ⟨z, its, n, r, hl, e⟩ := I.lstM hH
  obtain ⟨w, hw, rw'⟩ := r.get hy
  refine call_meets F.slot_list_pop ⟨_, e, rfl⟩ F.entry_list_pop (F.args_list_pop_2 _ _)
    (MeetsSeq.list_pop_at l its.toArray n i t k w (fitsIndex_both h1 h2) (by rw [List.size_toArray, ← hl]; exact hk) (by rw [← Array.getElem?_toList]; exact hw) (by rw [List.size_toArray]; omega)) ⟨e, ?_⟩
  refine ⟨y, _, I.lset (its' := its.eraseIdx k) hH e ?_ (r.eraseIdx k) ?_, rw', q⟩
  · show its.toArray.eraseIdxIfInBounds k = (its.eraseIdx k).toArray
    rw [List.eraseIdxIfInBounds_toArray]
  · have := len_erase xs k
    omega

def rReverse : V → List V → Hp → VK → Prop := fun x vs H Q => ∃ l xs, x = .ref l ∧ vs = [] ∧ H l = some (.lst xs) ∧ Q .non (upd H l (.lst xs.reverse))
theorem mt_reverse : MtM X "list.reverse" rReverse := by
  intro pins s σ H x vs v us Q I rx rv h
  obtain ⟨l, xs, rfl, rfl, hH, q⟩ := h
  cases rx
  have hus := rv.zero
  subst hus
  obtain ⟨z, its, n, r, hl, e⟩ := I.lstM hH
  refine call_meets F.slot_list_reverse ⟨_, e, rfl⟩ F.entry_list_reverse (F.args_list_reverse_1 _) (AutoSeq1.list_reverse_list_0 l its.toArray n (by rw [List.size_toArray]; omega)) ⟨e, ?_⟩
  refine ⟨.non, _, I.lset (its' := its.reverse) hH e (by simp) r.reverse ?_, rfl, q⟩
  rw [List.length_reverse]
  omega

def rClear : V → List V → Hp → VK → Prop := fun x vs H Q => ∃ l xs, x = .ref l ∧ vs = [] ∧ H l = some (.lst xs) ∧ Q .non (upd H l (.lst []))
theorem mt_clear : MtM X "list.clear" rClear := by
  intro pins s σ H x vs v us Q I rx rv h
  obtain ⟨l, xs, rfl, rfl, hH, q⟩ := h
  cases rx
  have hus := rv.zero
  subst hus
  obtain ⟨z, its, n, r, hl, e⟩ := I.lstM hH
  refine call_meets F.slot_list_clear ⟨_, e, rfl⟩ F.entry_list_clear (F.args_list_clear_1 _) (AutoSeq1.list_clear_list_0 l its.toArray n (by rw [List.size_toArray]; omega)) ⟨e, ?_⟩
  exact ⟨.non, _, I.lset (its' := []) (ys := []) hH e rfl .nil (Nat.zero_le _), rfl, q⟩

/-! ### list + list, list += list, list * int -/
def rCat : R2 := fun x y H Q => ∃ l b xs zs, x = .ref l ∧ y = .ref b ∧ H l = some (.lst xs) ∧ H b = some (.lst zs) ∧ xs.length + zs.length ≤ sizeLine ∧ ∀ p, H p = none → Q (.ref p) (upd H p (.lst (xs ++ zs)))
theorem op_cat : OpR X (binaryOp .Add) rCat := by
  intro pins s σ H x y v u Q I rx ry h
  obtain ⟨l, b, xs, zs, rfl, rfl, hH, hB, hz, q⟩ := h
  cases rx
  cases ry
  obtain ⟨z, its, n, r, hl, e⟩ := I.lstM hH
  obtain ⟨z2, its2, n2, r2, hl2, e2⟩ := I.lstM hB
  refine PySem.P.add_list e e2 ?_ (by rw [List.size_toArray, List.size_toArray]; omega)
  have ea : its.toArray ++ its2.toArray = (its ++ its2).toArray := by simp
  rw [ea]
  exact ⟨.ref _, _, I.lnew (t' := s.toks) (r.append r2) (by rw [List.length_append]; omega), rfl, q _ I.fresh⟩
/-- a list times an int (a negative one is nothing) -/
def rRep : R2 := fun x y H Q => ∃ l k xs, x = .ref l ∧ y = .int k ∧ H l = some (.lst xs) ∧ -(2 ^ 63) ≤ k ∧ k < 2 ^ 63 ∧ xs.length * k.toNat ≤ sizeLine ∧
  ∀ p, H p = none → Q (.ref p) (upd H p (.lst (List.replicate k.toNat xs).flatten))
theorem len_rep {α : Type} (xs : List α) (k : Nat) : (List.replicate k xs).flatten.length = k * xs.length := by
  induction k with
  | zero => simp
  | succ k ih => rw [List.replicate_succ, List.flatten_cons, List.length_append, ih, Nat.succ_mul, Nat.add_comm]
theorem op_rep : OpR X (binaryOp .Mult) rRep := by
  intro pins s σ H x y v u Q I rx ry h
  obtain ⟨l, k, xs, rfl, rfl, hH, h1, h2, hz, q⟩ := h
  cases rx
  obtain ⟨t, rfl⟩ := ry
  obtain ⟨z, its, n, r, hl, e⟩ := I.lstM hH
  have hlen : its.toArray.size * k.toNat ≤ sizeLine := by rw [List.size_toArray, ← hl]; exact hz
  have hcap : ¬ its.toArray.size * k.toNat > (2 ^ 63 - 1) / 8 := by
    have : (sizeLine : Nat) ≤ (2 ^ 63 - 1) / 8 := by decide
    omega
  have hfit : ¬ (!Builtin.List.listFitsIndex k) = true := by
    rw [fitsIndex_both h1 h2]
    exact Bool.false_ne_true
  have hlong : ¬ Builtin.List.listTooLong (its.toArray.size * k.toNat) = true := by
    rw [notLongL hlen]
    exact Bool.false_ne_true
  have hnew : List.foldl (fun x1 x2 => x1 ++ x2) #[] (List.replicate (if its.toArray.isEmpty = true then 0 else k.toNat) its.toArray) = (List.replicate k.toNat its).flatten.toArray := by
    have f0 : ∀ m : Nat, List.foldl (fun x1 x2 => x1 ++ x2) #[] (List.replicate m its.toArray) = (List.replicate m its).flatten.toArray := fun m => by
      have := foldl_rep its m []
      rw [List.nil_append] at this
      exact this
    rw [f0]
    cases its with
    | nil => simp
    | cons a r' => rw [if_neg (by simp)]
  refine wpAny_binaryOp_repeat_ref (T := "list") (U := "int") (by decide) ⟨_, e, rfl⟩ (fun s' => typeIs_int s' k t) noFill_list_mul F.fills_int_mul F.slot_int_rmul repeat_list F.slot_int_index.lookup
    (call_meets F.slot_int_rmul (typeIs_int s k t) F.entry_int_rmul (F.args_int_rmul_2 _ _) (int___rmul___int_list k t l its.toArray n)
      ⟨e, rfl, ⟨_, e, rfl⟩, call_meets F.slot_list_mul ⟨_, e, rfl⟩ F.entry_list_mul (F.args_list_mul_2 _ _) (AutoListH.list___mul___list_int_3 l its.toArray n k t hfit hcap hlong) ⟨e, ?_⟩⟩)
  rw [hnew]
  exact ⟨.ref _, _, I.lnew (t' := s.toks) (r.rep k.toNat) (by rw [len_rep, Nat.mul_comm]; exact hz), rfl, q _ I.fresh⟩

/-! ### del xs[i] -/
theorem del_list {pins : List (Addr × Obj)} {s : Shared} {σ : St} {H : Hp} {l : Addr} {xs : List V} {i : Int} {t : Tok} {k : Nat} {Q : Unit → Shared → Prop} (I : Inv X pins σ H s) (hH : H l = some (.lst xs))
    (h1 : -(2 ^ 63) ≤ i) (h2 : i < 2 ^ 63) (hk : seqIndex? i xs.length = some k) (h : ∀ s', Inv X pins σ (upd H l (.lst (xs.eraseIdx k))) s' → Q () s') :
    wpAny (model X.prog X.w) X.A (delItem (.ref l) (.int i t)) Q X.xe s := by
  obtain ⟨z, its, n, r, hl, e⟩ := I.lstM hH
  refine PySem.P.delItem_list (k := k) e (fitsIndex_both h1 h2) (by rw [List.size_toArray, ← hl]; exact hk) (h _ ?_) (by rw [List.size_toArray]; omega)
  refine I.lset (its' := its.eraseIdx k) (t' := s.toks) hH e ?_ (r.eraseIdx k) ?_
  · show its.toArray.eraseIdxIfInBounds k = (its.eraseIdx k).toArray
    rw [List.eraseIdxIfInBounds_toArray]
  · have := len_erase xs k
    omega
end

/-! ### xs[a:b] = ys -/
section
variable {prog : Program} {w : World} {A : Around} {E : Value → Shared → Prop} {s : Shared}
theorem splice_eq (its its2 : List Value) (a c : Nat) : its.toArray.extract 0 a ++ its2.toArray ++ its.toArray.extract c its.toArray.size = (its.take a ++ its2 ++ its.drop c).toArray := by
  apply Array.toList_inj.mp
  first
    | (simp
       exact List.take_of_length_le (by simp))
    | simp [List.take_of_length_le]
    | simp
theorem bounds_run {a c n : Nat} (hac : a ≤ c) (hc : c ≤ n) : sliceBounds (some (a : Int)) (some (c : Int)) none n = ((a : Int), (c : Int), 1) := by
  simp only [sliceBounds, Option.getD_none]
  have h1 : ¬ ((a : Int) < 0) := by omega
  have h2 : ¬ ((c : Int) < 0) := by omega
  simp only [h1, h2, if_false, show (1 : Int) > 0 by decide, if_true]
  congr 1
  · omega
  · congr 1; omega
set_option maxRecDepth 100000 in
/-- list.__setitem__ with a slice of step one and another list -/
theorem setItem_slice {l b sl : Addr} {items new : Array Value} {n n2 : Nat} {vl vu : Value} {a c : Nat} {Q : Unit → Shared → Prop}
    (e : s.heap.get? l = some { cls := .type "list", data := .seq items n }) (e2 : s.heap.get? b = some { cls := .type "list", data := .seq new n2 }) (hne : l ≠ b)
    (hs : s.heap.IsSliceOf sl vl vu .none) (pl : IsPart vl (some (a : Int))) (pu : IsPart vu (some (c : Int))) (hac : a ≤ c) (hc : c ≤ items.size)
    (hsz : items.size + new.size ≤ sizeLine) (h : Q () { s with heap := s.heap.update l (Obj.mapSeq fun xs => xs.extract 0 a ++ new ++ xs.extract c xs.size) }) :
    wpAny (model prog w) A (setItem (.ref l) (.ref sl) (.ref b)) Q E s := by
  have hl : s.heap.IsList l items := PySem.IsL.isList e
  have hb : s.heap.IsList b new := PySem.IsL.isList e2
  obtain ⟨os, hos, hcs, hds⟩ := id hs
  have hTs : s.TypeIs (.ref sl) "slice" := ⟨os, hos, hcs⟩
  have hstep : ¬ ((rawPart none == rawInt 0) = true) := Bool.false_ne_true
  have hsame : Builtin.List.listSameRef (.ref l) (.ref b) = false := by
    unfold Builtin.List.listSameRef
    exact beq_eq_false_iff_ne.mpr hne
  have hmax : (max (a : Int) (c : Int)).toNat = c := by omega
  have hz' : ((fun xs : Array Value => xs.extract 0 a ++ new ++ xs.extract c xs.size) items).size ≤ sizeLine + 1 := by
    simp only [Array.size_append, Array.size_extract]
    omega
  unfold setItem
  try with_reducible refine wpAny_holding ?_
  first | refine wpAny_bind (wpAny_pure ?_) | skip
  refine wpAny_bind (wpAny_sequenceKey hl.typeIs (by decide) ?_)
  refine wpAny_bind (wpAny_callSpecial?_slot (name := Str.ofString "__setitem__") hl.typeIs slot_list_setitem
    (wpAny_call_entry slot_list_setitem hl.typeIs entry_list_setitem ?_ (args_list_setitem _ _ _)))
  show wpAny _ _ (Builtin.List.listSubscript? (.ref sl) >>= _) _ _ s
  refine wpAny_bind ?_
  unfold Builtin.List.listSubscript?
  refine wpAny_bind (wpAny_specialOf hTs slice_no_index ?_)
  simp only [Option.isNone_none, if_true]
  refine wpAny_pure ?_
  show wpAny _ _ (typeOf (.ref sl) >>= _) _ _ s
  refine wpAny_bind (wpAny_typeOf hTs ?_)
  first
    | rw [if_neg (by decide)]
    | refine PySem.W.KFB.if_not (by decide) ?_
  rw [listSliceParts_eq]
  refine wpAny_bind (wpAny_bind (wpAny_field hos hds (x := .none) rfl (wpAny_bind (wpAny_listPart .none ?_))))
  rw [if_neg hstep]
  refine wpAny_bind (wpAny_field hos hds (x := vl) rfl (wpAny_bind (wpAny_listPart pl ?_)))
  refine wpAny_bind (wpAny_field hos hds (x := vu) rfl (wpAny_bind (wpAny_listPart pu (wpAny_pure ?_))))
  first
    | simp only [hsame, Bool.false_eq_true, if_false]
    | refine PySem.W.KFB.if_not hsame ?_
    | (dsimp only
       rw [if_neg (by rw [hsame]; exact Bool.false_ne_true)])
  refine wpAny_bind (m := Builtin.List.listAllItems (.ref b) "must assign iterable to extended slice") ?_
  unfold Builtin.List.listAllItems
  refine wpAny_bind (wpAny_typeOf hb.typeIs ?_)
  first
    | refine PySem.W.KFB.if_so (by decide) ?_
    | rw [if_pos (by decide)]
    | simp only [beq_self_eq_true, Bool.true_or, if_true]
  unfold Builtin.List.listItems
  refine wpAny_bind (wpAny_seqItems e2 rfl (wpAny_pure ?_))
  refine wpAny_bind (wpAny_bind (wpAny_seqItems e rfl (wpAny_pure ?_)))
  refine wpAny_bind (wpAny_of_eq ((sliceIndices_raw (some (a : Int)) (some (c : Int)) none items.size (by simp)).trans (congrArg (pure : Int × Int × Int → Sem (Int × Int × Int)) (bounds_run hac hc))) ?_)
  show wpAny _ _ (if ((1 : Int) == 1) = true then _ else _) _ _ s
  rw [if_pos (by decide)]
  refine wpAny_bind (wpAny_rule ?_)
  first
    | simp only [notLongL hsz, Bool.false_eq_true, if_false]
    | refine PySem.W.KFB.if_not (notLongL hsz) ?_
  first | refine wpAny_bind (wpAny_pure ?_) | skip
  show wpAny _ _ (updateSeq l (fun xs => xs.extract 0 ((a : Int)).toNat ++ new ++ xs.extract (max (a : Int) (c : Int)).toNat xs.size) >>= _) _ _ s
  rw [hmax, Int.toNat_natCast]
  refine wpAny_bind (wpAny_updateSeq (hz := Nat.le_trans (Nat.le_add_right _ _) hsz) (_hz' := hz') e rfl ?_)
  refine wpAny_bind (wpAny_letGo ?_)
  first
    | exact wpAny_bind (wpAny_pure (wpAny_pure ⟨.none, rfl, wpAny_pure h⟩))
    | exact wpAny_pure ⟨.none, rfl, wpAny_pure h⟩
end

section
variable {X : Cx}
/-- xs[a:c] = ys of another list, at the value level: sl is the slice object that was just made -/
theorem set_slice {pins : List (Addr × Obj)} {s : Shared} {σ : St} {H : Hp} {l b sl : Addr} {xs ys : List V} {a c : Int} {vl vu : Value} {Q : Unit → Shared → Prop} (I : Inv X pins σ H s)
    (hH : H l = some (.lst xs)) (hB : H b = some (.lst ys)) (hne : l ≠ b) (hs : s.heap.IsSliceOf sl vl vu .none) (ra : RelV (.int a) vl) (rc : RelV (.int c) vu) (h0 : 0 ≤ a) (hac : a ≤ c) (hc : c ≤ xs.length)
    (hz : xs.length + ys.length ≤ sizeLine) (h : ∀ s', Inv X pins σ (upd H l (.lst (xs.take a.toNat ++ ys ++ xs.drop c.toNat))) s' → Q () s') :
    wpAny (model X.prog X.w) X.A (setItem (.ref l) (.ref sl) (.ref b)) Q X.xe s := by
  obtain ⟨ta, rfl⟩ := ra
  obtain ⟨tc, rfl⟩ := rc
  obtain ⟨z, its, n, r, hl, e⟩ := I.lstM hH
  obtain ⟨z2, its2, n2, r2, hl2, e2⟩ := I.lstM hB
  obtain ⟨a', rfl⟩ := Int.eq_ofNat_of_zero_le h0
  obtain ⟨c', rfl⟩ := Int.eq_ofNat_of_zero_le (Int.le_trans h0 hac)
  simp only [Int.toNat_natCast] at h
  refine setItem_slice (a := a') (c := c') e e2 hne hs (.int _ _) (.int _ _) (by omega) (by rw [List.size_toArray]; omega) (by rw [List.size_toArray, List.size_toArray]; omega) (h _ ?_)
  refine I.lset (its' := its.take a' ++ its2 ++ its.drop c') (t' := s.toks) hH e ?_ (Vals.append (Vals.append (r.take _) r2) (r.drop _)) ?_
  · exact splice_eq its its2 a' c'
  · rw [List.length_append, List.length_append, List.length_take, List.length_drop]
    omega
end
end L2

namespace Att
open PySem PySem.W PySem.Calls PyProof.Rows

/-! ### the script -/
theorem ints_of_wellAll {P : Params} {h : Heap} : ∀ (ns : List Int) (vs : List Value), WellAll P h vs (ns.map WData.int) → IntsAre vs ns := by
  intro ns
  induction ns with
  | nil =>
    intro vs w
    rw [List.map_nil] at w
    cases w
    exact .nil
  | cons n ns ih =>
    intro vs w
    rw [List.map_cons] at w
    cases w with
    | cons a b =>
      cases a
      exact .cons _ _ (ih _ b)

theorem script_of {l : OpenLaw} {n : Nat} (hn : l.most = some n) {P : Params} {h : Heap} {args : List WData} {vals : List Value}
    (hpre : l.row.toRowW.claim.pre args = true) (hwl : WellAll P h vals args) :
    ∃ a vs ns, vals = [Value.ref a] ∧ args = [WData.list (ns.map WData.int)] ∧ h.get? a = some { cls := .type "list", data := .seq vs.toArray } ∧ IntsAre vs ns ∧ ns.length ≤ n := by
  have hsh : WShape.hasAll [] args [.list .int] = true := (pre_splitW hpre).1
  have hc : l.pre.holds [] { args := args } = true := (pre_splitW hpre).2
  obtain ⟨d, r, rfl, h1, h2⟩ := hasAllW_cons hsh
  obtain rfl := hasAllW_nil h2
  obtain ⟨xs, rfl, h3⟩ := hasW_list h1
  obtain ⟨ns, rfl⟩ := items_int h3
  have hlen : ns.length ≤ n := by
    unfold OpenLaw.pre at hc
    have h4 : (WTm.not (.lt (.lit (.int (n : Int))) (.len (.arg 0)))).holds [] { args := [.list (ns.map .int)] } = true := by
      have h4 := (holds_andW hc).1
      rw [hn] at h4
      exact h4
    have h5 := condW_of h4 (w_not (w_lt w_lit (w_len_list (w_arg rfl))))
    rw [List.length_map] at h5
    refine Nat.le_of_not_lt fun q => ?_
    have q' : (n : Int) < ((ns.length : Nat) : Int) := by omega
    first
      | (rw [decide_eq_true q'] at h5; exact absurd h5 (by decide))
      | (simp at h5; omega)
  cases hwl with
  | cons w1 w2 =>
    cases w2
    cases w1 with
    | list ho hall => exact ⟨_, _, ns, rfl, rfl, ho, ints_of_wellAll ns _ hall, hlen⟩

theorem post_true (l : OpenLaw) (args : List WData) : l.row.toRowW.claim.post args (.bool true) args = true :=
  postW_of (r := l.row.toRowW) (X := (true == true))
    (show WShape.has [] (.bool true) .bool = true by first | rfl | decide | simp [WShape.has, WShape.arms, WShape.armsAll])
    (show (WTm.eq .res (.lit (.bool true))).value [] { args := args, res := some (.bool true), after := args } = some (.bool (true == true)) from w_eq_bool (w_res rfl) w_lit) rfl

/-! ### the attachment: holds_open's last premise (the goal 'hc' behind k_head) from a wpAny of the law's body -/
theorem attach {l : OpenLaw} {n : Nat} {q : Program} {loose : List Str} {XP : (Str → Option Value) → Heap → Prop} {YP : World → Heap → Prop} {d : DefRec} {x : Str}
    (hn : l.most = some n) (hdf : d.params.defaults = [])
    (hbind : ∀ pm cd doc v : Value, bindArgs (docDef d.name d.params d.body d.scope pm cd doc) ⟨[v], []⟩ = pure [(x, v)])
    (hx : d.scope.names.lookup x = some .local ∨ d.scope.names.lookup x = some .cell)
    (hk : d.scope.kind = .function) (hco : d.scope.isCoroutine = false) (hgen : d.scope.isGenerator = false)
    (body : ∀ (w : World) (s₀ s₁ s : Shared) (mg mb : Str → Option Value) (fa : Addr) (o : Obj) (pm cd doc : Value) (a : Addr) (vs : List Value) (ns : List Int),
      Ground q loose [] XP w s₀ mg mb s₁.heap → YP w s₁.heap →
      s₁.heap.get? fa = some o → o.data = .func (docDef d.name d.params d.body d.scope pm cd doc) → s₁.heap.CodeRec cd d.name → mg d.name = some (.ref fa) →
      s₁.heap.get? a = some { cls := .type "list", data := .seq vs.toArray } → IntsAre vs ns → ns.length ≤ n →
      s.gens = #[] → s.os = s₁.os →
      Fr s₁.heap s₁.heap.objs.size s.heap (bindL (envOfC d.name d.scope s₁.heap.objs.size fa cd).kindOf [(x, .ref a)] fun _ => none) →
      Cl s₁.heap.objs.size (cellsFrom (s₁.heap.objs.size + 1) d.scope.names []) s.heap (bindC (envOfC d.name d.scope s₁.heap.objs.size fa cd).kindOf [(x, .ref a)] fun _ => none) →
      wpAny (model l.prog w) (callerA.deeper (envOfC d.name d.scope s₁.heap.objs.size fa cd)) (execs d.body (envOfC d.name d.scope s₁.heap.objs.size fa cd))
        (fun f s' => f = .ret (.bool true) ∧ OldK s₁.heap s'.heap ∧ s'.os = s₁.os ∧ AllBare s'.gens) (fun _ _ => False) s) :
    WalkO q loose XP YP l.row.toRowW d [] (fun f vs => PySem.call f vs) := by
  intro w s₀ s₁ mg mb G Y fa o pm cd doc dV kV ho hd hcd hD hmg hg args vals as hpre hlay hrd hwl hlo
  obtain rfl : dV = .none := Dflts.none hD hdf
  obtain rfl : kV = .none := Dflts.noKw hD
  obtain ⟨a, vs, ns, rfl, rfl, hobj, hints, hlen⟩ := script_of hn hpre hwl
  refine enter_call ?_
  refine call_cells_ret (o := o) (by rw [depth_caller]; decide) ho (fd_plain hd) G.T.nolimit hcd (hbind pm cd doc (.ref a)) (fun y hy => ?_) (fun h₁ tk F X => ?_) hco hgen hk
  · obtain rfl : y = (x, Value.ref a) := List.mem_singleton.mp hy
    rcases hx with e | e
    · exact .inl e
    · exact .inr ⟨e, cellsFrom_some _ _ _ (.inl e)⟩
  · refine wpAny_mono (body w s₀ s₁ { s₁ with heap := h₁, toks := tk } mg mb fa o pm cd doc a vs ns G Y ho (fd_plain hd) hcd hmg hobj hints hlen hg rfl F X) (fun f s' hq => ?_) (fun _ _ hq => hq)
    obtain ⟨rfl, h2, h3, h4⟩ := hq
    exact ⟨.inl ⟨.bool true, .bool true, [], rfl, fun _ => rfl, .bool true, post_true l _, fun _ => ⟨List.Pairwise.nil, fun _ hm => (nomatch hm)⟩⟩, h2, h3, h4⟩

/-- the same from a codeAny of the CALL (for a layer whose function contracts speak of calls) -/
theorem attach_call {l : OpenLaw} {n : Nat} {q : Program} {loose : List Str} {XP : (Str → Option Value) → Heap → Prop} {YP : World → Heap → Prop} {d : DefRec}
    (hn : l.most = some n) (hdf : d.params.defaults = [])
    (call : ∀ (w : World) (s₀ s₁ : Shared) (mg mb : Str → Option Value) (fa : Addr) (o : Obj) (pm cd doc : Value) (a : Addr) (vs : List Value) (ns : List Int),
      Ground q loose [] XP w s₀ mg mb s₁.heap → YP w s₁.heap →
      s₁.heap.get? fa = some o → o.data = .func (docDef d.name d.params d.body d.scope pm cd doc) → s₁.heap.CodeRec cd d.name → mg d.name = some (.ref fa) →
      s₁.heap.get? a = some { cls := .type "list", data := .seq vs.toArray } → IntsAre vs ns → ns.length ≤ n → s₁.gens = #[] →
      codeAny (model l.prog w) callerA (.call (.ref fa) ⟨[.ref a], []⟩) (fun r s' => r = .ok (.ret (.bool true)) ∧ OldK s₁.heap s'.heap ∧ s'.os = s₁.os ∧ AllBare s'.gens) s₁) :
    WalkO q loose XP YP l.row.toRowW d [] (fun f vs => PySem.call f vs) := by
  intro w s₀ s₁ mg mb G Y fa o pm cd doc dV kV ho hd hcd hD hmg hg args vals as hpre hlay hrd hwl hlo
  obtain rfl : dV = .none := Dflts.none hD hdf
  obtain rfl : kV = .none := Dflts.noKw hD
  obtain ⟨a, vs, ns, rfl, rfl, hobj, hints, hlen⟩ := script_of hn hpre hwl
  refine enter_call (codeAny_mono (call w s₀ s₁ mg mb fa o pm cd doc a vs ns G Y ho (fd_plain hd) hcd hmg hobj hints hlen hg) fun r s' hq => ?_)
  obtain ⟨rfl, h2, h3, h4⟩ := hq
  exact ⟨.inl ⟨.bool true, .bool true, [], rfl, fun _ => rfl, .bool true, post_true l _, fun _ => ⟨List.Pairwise.nil, fun _ hm => (nomatch hm)⟩⟩, h2, h3, h4⟩

/-- the same where the top left finished generators (o_head chose holds_openN): nothing may have changed at all and no generator may be left -/
theorem attachN {l : OpenLaw} {n : Nat} {q : Program} {loose : List Str} {XP : (Str → Option Value) → Heap → Prop} {YP : World → Heap → Prop} {d : DefRec} {x : Str}
    (hn : l.most = some n) (hdf : d.params.defaults = [])
    (hbind : ∀ pm cd doc v : Value, bindArgs (docDef d.name d.params d.body d.scope pm cd doc) ⟨[v], []⟩ = pure [(x, v)])
    (hx : d.scope.names.lookup x = some .local ∨ d.scope.names.lookup x = some .cell)
    (hk : d.scope.kind = .function) (hco : d.scope.isCoroutine = false) (hgen : d.scope.isGenerator = false)
    (body : ∀ (w : World) (s₀ s₁ s : Shared) (mg mb : Str → Option Value) (fa : Addr) (o : Obj) (pm cd doc : Value) (a : Addr) (vs : List Value) (ns : List Int),
      Ground q loose [] XP w s₀ mg mb s₁.heap → YP w s₁.heap →
      s₁.heap.get? fa = some o → o.data = .func (docDef d.name d.params d.body d.scope pm cd doc) → s₁.heap.CodeRec cd d.name → mg d.name = some (.ref fa) →
      s₁.heap.get? a = some { cls := .type "list", data := .seq vs.toArray } → IntsAre vs ns → ns.length ≤ n →
      s.gens = #[] → s.os = s₁.os →
      Fr s₁.heap s₁.heap.objs.size s.heap (bindL (envOfC d.name d.scope s₁.heap.objs.size fa cd).kindOf [(x, .ref a)] fun _ => none) →
      Cl s₁.heap.objs.size (cellsFrom (s₁.heap.objs.size + 1) d.scope.names []) s.heap (bindC (envOfC d.name d.scope s₁.heap.objs.size fa cd).kindOf [(x, .ref a)] fun _ => none) →
      wpAny (model l.prog w) (callerA.deeper (envOfC d.name d.scope s₁.heap.objs.size fa cd)) (execs d.body (envOfC d.name d.scope s₁.heap.objs.size fa cd))
        (fun f s' => f = .ret (.bool true) ∧ (∀ b o, s₁.heap.get? b = some o → s'.heap.get? b = some o) ∧ s'.os = s₁.os ∧ s'.gens = #[]) (fun _ _ => False) s) :
    WalkN q loose XP YP l.row.toRowW d [] (fun f vs => PySem.call f vs) := by
  intro w s₀ s₁ mg mb G Y fa o pm cd doc dV kV ho hd hcd hD hmg hg args vals as hpre hlay hrd hwl hlo
  obtain rfl : dV = .none := Dflts.none hD hdf
  obtain rfl : kV = .none := Dflts.noKw hD
  obtain ⟨a, vs, ns, rfl, rfl, hobj, hints, hlen⟩ := script_of hn hpre hwl
  refine enter_callW ?_
  refine call_cells_ret (o := o) (by rw [depth_caller]; decide) ho (fd_plain hd) G.T.nolimit hcd (hbind pm cd doc (.ref a)) (fun y hy => ?_) (fun h₁ tk F X => ?_) hco hgen hk
  · obtain rfl : y = (x, Value.ref a) := List.mem_singleton.mp hy
    rcases hx with e | e
    · exact .inl e
    · exact .inr ⟨e, cellsFrom_some _ _ _ (.inl e)⟩
  · refine wpAny_mono (body w s₀ s₁ { s₁ with heap := h₁, toks := tk } mg mb fa o pm cd doc a vs ns G Y ho (fd_plain hd) hcd hmg hobj hints hlen hg rfl F X) (fun f s' hq => ?_) (fun _ _ hq => hq)
    obtain ⟨rfl, h2, h3, h4⟩ := hq
    exact ⟨.inl ⟨.bool true, .bool true, [], rfl, fun _ => rfl, .bool true, post_true l _, fun _ => ⟨List.Pairwise.nil, fun _ hm => (nomatch hm)⟩⟩, h2, h3, h4⟩

/-! ### rules over ANY heap (no ledger) from facts about the written part K: the library's own take a ledger (News) for what they write -/
section
variable {prog : Program} {w : World} {A : Around} {E : Value → Shared → Prop} {s : Shared} {K : Frag}

/-- a def of the module, or a method (qual 'C.m'), entered: the frame is the next address; cells behind it -/
theorem call_fn {R : Result → Shared → Prop} {name qual : Str} {params : Arguments} {body : List Stmt} {scope : Scope} {dV kV doc pm cdv ct oc : Value} {an od : Option Addr} {osl : Array (Option Value)} {f : Addr} {args : Args} {binds : List (Str × Value)}
    (X : K.In s.heap) (hlim : s.heap.NoLimit) (ho : K.lookup f = some ⟨oc, od, .func (fnOf name qual params body scope dV kV doc pm an cdv ct), osl⟩) (hcd : codeIn K cdv qual = true) (hroom : A.depth < recursionLimit)
    (hbind : BindsTo s (fnOf name qual params body scope dV kV doc pm an cdv ct) args binds)
    (hkind : (binds.all fun y => scope.names.lookup y.1 == some .local || scope.names.lookup y.1 == some .cell) = true)
    (h : ∀ s₁, InCallC s s.heap.objs.size (bindL (envOfC qual scope s.heap.objs.size f cdv).kindOf binds fun _ => none) (cellsFrom (s.heap.objs.size + 1) scope.names [])
        (bindC (envOfC qual scope s.heap.objs.size f cdv).kindOf binds fun _ => none) s₁ →
      wpAny (model prog w) (A.deeper (envOfC qual scope s.heap.objs.size f cdv)) (execs body (envOfC qual scope s.heap.objs.size f cdv))
        (fun fl s' => R (.ok (.ret (match fl with | .ret v => v | _ => .none))) s')
        (fun e s' => wpAny (model prog w) (A.deeper (envOfC qual scope s.heap.objs.size f cdv)) (leaving (envOfC qual scope s.heap.objs.size f cdv) e) (fun _ s'' => R (.error e) s'') (fun e' s'' => R (.error e') s'') s') s₁)
    (hco : scope.isCoroutine = false) (hgen : scope.isGenerator = false) (hk : scope.kind = .function) : codeAny (model prog w) A (.call (.ref f) args) R s := by
  refine codeAny_call_function hroom (X _ _ ho) rfl hco hgen rfl (codeRec_of X hcd) (hbind _ _ _ _ ?_)
  refine wpAny_newFunctionEnv_cells hk (kindsX hkind _) fun env he s₁ x => ?_
  subst he
  exact ⟨hlim.keeps x.toInCall.keep, codeAny_func (h s₁ x)⟩

/-- C(..): dict at size, instance at size + 1, then __init__ -/
theorem make_obj {R : Result → Shared → Prop} {C fI : Addr} {rest : List Value} {kw : List (Str × Value)}
    (X : K.In s.heap) (hm : makesIn K C = true) (hi : findIn K (.ref C) "__init__" = some (some (.ref fI))) (hf : isFn K (.ref fI) = true)
    (h : codeAny (model prog w) (A.under (.builtin "type.__call__" ⟨.ref C :: rest, kw⟩)) (.call (.ref fI) ⟨.ref (s.heap.objs.size + 1) :: rest, kw⟩) (InitBack (s.heap.objs.size + 1) R)
      { s with heap := (s.heap.push emptyDict).push (instObj C s.heap.objs.size) }) : codeAny (model prog w) A (.call (.ref C) ⟨rest, kw⟩) R s := by
  obtain ⟨hh, g, d, t, os⟩ := s
  exact make_core (makes_of X hm) (looks_findIn X hi) (fun self => bind_fn X self (beq_iff_eq.mp hf)) (.inl rfl) h

/-- x.name where the instance's dict holds the name and the class does not -/
theorem get_field {x C : Addr} {ox : Obj} {es : List DictEntry} {n : Nat} {name : Str} {expr : Bool} {v : Value} {Q : Value → Shared → Prop}
    (X : K.In s.heap) (I : PySem.W.InstAt s.heap x ox C (some (dictOf es n))) (hg : plainGet K C name = true) (hh : hasDictIn K C = true) (ha : findIn K (.ref C) name = some none)
    (hl : getL name es = some (some v)) (hv : handedIn v = true) (h : Q v { s with toks := s.toks + 1 }) : wpAny (model prog w) A (getAttr (.ref x) name expr) Q E s :=
  get_value X I (plainGet_of hg).1 (findObj_own hh ha rfl hl) hv h

/-- x.m(..): the method found in the class -/
theorem get_method {x C f : Addr} {ox : Obj} {es : List DictEntry} {n : Nat} {name : Str} {pl : Sem Bool} {Q : Value × List Value → Shared → Prop}
    (X : K.In s.heap) (I : PySem.W.InstAt s.heap x ox C (some (dictOf es n))) (hg : plainGet K C name = true) (hf : findIn K (.ref C) name = some (some (.ref f))) (ht : isFn K (.ref f) = true)
    (hl : getL name es = some none) (h : Q (.ref f, [.ref x]) s) : wpAny (model prog w) A (getMethod (.ref x) name pl) Q E s :=
  method_fn X I (plainGet_of hg).1 (plainGet_of hg).2 hf (beq_iff_eq.mp ht) (by show (lookIn name (dictOf es n)).map _ = _; rw [lookIn_dict, hl]; rfl) h

/-! the whole heap as the ledger: makes every rule that writes through a ledger a rule over any heap -/
def noObjs (h : Heap) : Heap := { h with objs := #[] }
theorem noObjs_get (h : Heap) (b : Addr) : (noObjs h).get? b = none := by
  cases e : (noObjs h).get? b with
  | none => rfl
  | some o => exact absurd (Heap.lt_size e) (Nat.not_lt_zero _)
def ledger (h : Heap) (L d : Addr) : List (Addr × Obj) := (List.range h.objs.size).filterMap fun a => if a = L ∨ a = d then none else (h.get? a).map fun o => (a, o)
theorem mem_ledger {h : Heap} {L d a : Addr} {o : Obj} : (a, o) ∈ ledger h L d ↔ a ≠ L ∧ a ≠ d ∧ h.get? a = some o := by
  unfold ledger
  rw [List.mem_filterMap]
  constructor
  · rintro ⟨b, _, e⟩
    split at e
    · cases e
    · rename_i hb
      obtain ⟨o', ho, e'⟩ := Option.map_eq_some_iff.mp e
      cases e'
      exact ⟨fun q => hb (.inl q), fun q => hb (.inr q), ho⟩
  · rintro ⟨n1, n2, ho⟩
    refine ⟨a, List.mem_range.mpr (Heap.lt_size ho), ?_⟩
    rw [if_neg (show ¬ (a = L ∨ a = d) from fun q => q.elim n1 n2), ho] <;> rfl
theorem news_ledger {h : Heap} {L d : Addr} {od : Obj} (hne : d ≠ L) (ho : h.get? d = some od) : News (noObjs h) L h ([] ++ (d, od) :: ledger h L d) := by
  rintro ⟨a, o⟩ hp
  rcases List.mem_cons.mp hp with e | hp
  · cases e
    exact ⟨ho, hne, noObjs_get _ _⟩
  · obtain ⟨n1, n2, e⟩ := mem_ledger.mp hp
    exact ⟨e, n1, noObjs_get _ _⟩
theorem fr_all {h : Heap} {L : Addr} {m : Str → Option Value} (n : h.Ns L m) : Fr (noObjs h) L h m :=
  ⟨n, fun b o e => (by rw [noObjs_get] at e; cases e), Nat.zero_le _⟩
/-- Upd of the head entry (for append_K, setItem_K ..) -/
theorem upd_ledger {h : Heap} {L d : Addr} {o o' : Obj} : Upd d o o' ((d, o) :: ledger h L d) ((d, o') :: ledger h L d) :=
  .head fun ⟨_, _⟩ hp => (mem_ledger.mp hp).2.1

/-- x.name = v over any heap: L is any namespace of the heap (the frame's, say): its map stays, its object is not told; all else but the dict stays -/
theorem set_field {x C dx L : Addr} {ox : Obj} {m : Str → Option Value} {es es' : List DictEntry} {n n' : Nat} {name : Str} {v : Value} {Q : Unit → Shared → Prop}
    (X : K.In s.heap) (I : PySem.W.InstAt s.heap x ox C (some (dictOf es n))) (hd : ox.dict = some dx) (hL : s.heap.Ns L m) (hne : dx ≠ L)
    (hs : findIn K (.ref C) "__setattr__" = some (some (.builtin "object.__setattr__"))) (hp : plainOver K C = true) (ht : takerIn K C name = some none) (hh : hasDictIn K C = true) (hl : (getL name es).isSome = true)
    (e : (putL name (PyData.keyHash w.params name) (.str name (s.toks + 1)) v es, putN name es n) = (es', n')) (hz : es'.length ≤ 1000)
    (h : ∀ h' : Heap, h'.Ns L m → h'.get? dx = some (dictOf es' n') → (∀ b o, b ≠ dx → b ≠ L → s.heap.get? b = some o → h'.get? b = some o) → Q () { s with heap := h', toks := s.toks + 2 }) :
    wpAny (model prog w) A (setAttr (.ref x) name v) Q E s := by
  obtain ⟨e1, e2⟩ := Prod.mk.inj e
  have hdx : s.heap.get? dx = some (dictOf es n) := by
    have := I.dict
    rw [hd] at this
    exact this
  refine set_plain X I hs (osa_dict (s := { s with toks := s.toks + 1 }) (h₀ := noObjs s.heap) (L := L) (m := m) (od := dictOf es n) (od' := dictOf es' n') (es := es') (n := n') (pre := []) (post := ledger s.heap L dx)
    (fr_all hL) (news_ledger hne hdx) X I hd hp ht hh hl (fun _ q => nomatch q) (fun ⟨_, _⟩ q => (mem_ledger.mp q).2.1) (by rw [putName_dict, e1, e2]) rfl hz fun h' F' N' => ?_)
  exact h h' F'.ns (N'.get (List.Mem.head _)) fun b o n1 n2 ho => N'.get (List.Mem.tail _ (mem_ledger.mpr ⟨n2, n1, ho⟩))
end
end Att

namespace L2
open PySem PySem.Spec PyProof.Rows

theorem vals_ints : ∀ {vs : List Value} {ns : List Int}, IntsAre vs ns → Vals (ns.map V.int) vs
  | _, _, .nil => .nil
  | _, _, .cons n t h => .cons ⟨t, rfl⟩ (vals_ints h)

/-- nothing is tracked but the script, known to the object (or it is an object of the module) -/
def Only (H : Hp) : Prop := ∀ b, H b = none ∨ ∃ o xs, H b = some (.frz o (.lst xs))

/-- THE HEAD: the law's promise, at the heap behind the top. F, the promise of the law's def, may use that base is part of the heap (so K.In base, base.Ns mainGlobals mg stand in Mod) -/
theorem law_call {P : Program} {w : World} {K : PySem.W.Frag} {mg mb : Str → Option Value} {CX : CXT} {k : Nat} {fa a : Addr} {fd : FuncData} {x : Str} {sp : Sp} {s₁ : Shared} {vs : List Value} {ns : List Int}
    (KX : K.In s₁.heap) (hns : s₁.heap.Ns mainGlobals mg) (hb : s₁.heap.Ns builtinsNs mb) (hbb : ∀ x : Str, x ≠ "__name__" → mb x = bootBuiltins x) (hlim : s₁.heap.NoLimit) (hg : s₁.gens = #[])
    (ha : s₁.heap.get? a = some { cls := .type "list", data := .seq vs.toArray }) (hi : IntsAre vs ns) (hl : ns.length ≤ sizeLine) (hr : Room k callerA)
    (F : ∀ base : Heap, K.In base → base.Ns mainGlobals mg → FnOk P w K mg base CX k fa fd [x] sp) (hbind : ∀ (s : Shared) (u : Value), BindsTo s fd ⟨[u], []⟩ [(x, u)])
    (hsp : ∀ H : Hp, Only H → SqL K H a (ns.map V.int) → sp [.ref a] H (fun v _ => v = .bl true) fun _ _ _ => False)
    (hCX : ∀ H e s', CX [] H s₁ (fun _ _ _ => False) e s' → False) :
    codeAny (model P w) callerA (.call (.ref fa) ⟨[.ref a], []⟩) (fun r s' => r = .ok (.ret (.bool true)) ∧ OldK s₁.heap s'.heap ∧ s'.os = s₁.os ∧ AllBare s'.gens) s₁ := by
  have rv := vals_ints hi
  have lenV := hi.length
  -- from an abstract heap in which nothing but the script may be tracked
  have core : ∀ H : Hp, Only H → SqL K H a (ns.map V.int) → HOk P w H s₁.heap → (∀ b, H b ≠ none → b = a) → (H a ≠ none → K.lookup a = none) →
      codeAny (model P w) callerA (.call (.ref fa) ⟨[.ref a], []⟩) (fun r s' => r = .ok (.ret (.bool true)) ∧ OldK s₁.heap s'.heap ∧ s'.os = s₁.os ∧ AllBare s'.gens) s₁ := by
    intro H hO hS hok hA hK
    have base_of : ∀ {b : Addr} {o : Obj}, s₁.heap.get? b = some o → H b = none → (hidT s₁.heap H).get? b = some o := fun e n => hidT_get e n
    have noA : ∀ {b : Addr} {o : Obj} {es : Array DictEntry} {ep : Nat}, s₁.heap.get? b = some o → o.data = .dict es ep → H b = none := fun {b o es ep} e d => by
      cases q : H b with
      | none => rfl
      | some u =>
        have e' : b = a := hA b (by rw [q]; simp)
        subst e'
        rw [ha] at e; cases e
        have d' : Data.seq vs.toArray _ = Data.dict es ep := d
        cases d'
    have nsK : ∀ {b : Addr} {m : Str → Option Value}, s₁.heap.Ns b m → (hidT s₁.heap H).Ns b m := fun {b m} ⟨o, es, ep, e, d, r⟩ => ⟨o, es, ep, base_of e (noA e d), d, r⟩
    have hKb : K.In (hidT s₁.heap H) := fun b o e => base_of (KX b o e) (by
      cases q : H b with
      | none => rfl
      | some u =>
        have e' : b = a := hA b (by rw [q]; simp)
        subst e'
        rw [hK (by rw [q]; simp)] at e; cases e)
    have hM : Mod K mg (hidT s₁.heap H) := ⟨hKb, nsK hns, ⟨mb, nsK hb, hbb⟩, let ⟨mc, h1, h2⟩ := hlim; ⟨mc, nsK h1, h2⟩⟩
    have e0 : Env0 P w K mg (hidT s₁.heap H) callerA [] s₁ H := ⟨rfl, hM, fun b o e => of_hidT e, Nat.le_of_eq (hidT_size _ _), trivial, fun b hb => absurd (show b ∈ ([] : List Addr) from hb) (by simp), hok, .of_eq hg⟩
    refine codeAny_mono ((F _ hKb (nsK hns)).run callerA [] s₁ H ⟨[.ref a], []⟩ [.ref a] [.ref a] _ _ hr e0 (hbind s₁ (.ref a)) (.cons rfl .nil) (hsp H hO hS)) fun r s' h => ?_
    cases r with
    | error e => exact (hCX H e s' h).elim
    | ok fl =>
      cases fl with
      | next => exact False.elim h
      | brk => exact False.elim h
      | cont => exact False.elim h
      | ret u =>
        obtain ⟨v, H', os, bare, un, hok', r', q⟩ := h
        have q' : v = .bl true := q
        subst q'
        obtain rfl : u = Value.bool true := r'
        refine ⟨rfl, OldK.of_keep fun b o e => ?_, os, bare⟩
        cases q : H b with
        | none => exact un.keep b o e q (by intro z; exact absurd (show b ∈ ([] : List Addr) from z) (by simp)) (by simp)
        | some u =>
          rcases hO b with z | ⟨ob, xs, z⟩
          · rw [q] at z; cases z
          · have z2 := un.frzs b ob _ z
            obtain ⟨e1, _⟩ := hok b _ z
            obtain ⟨e2, _⟩ := hok' b _ z2
            rw [e] at e1; cases e1
            exact e2
  cases hk : K.lookup a with
  | some o =>
    -- the script is one of the module's own objects
    have e := KX a o hk
    rw [ha] at e
    cases e
    refine core (fun _ => none) (fun _ => .inl rfl) (.inr ⟨_, vs.toArray, _, hk, rfl, rfl, rfl, by rw [List.size_toArray, lenV]; exact hl, by simpa using rv⟩) (fun b u z => by have z' : (none : Option HO) = some u := z; cases z') (fun b z => absurd rfl z) fun z => absurd rfl z
  | none =>
    refine core (fun b => if b = a then some (.frz { cls := .type "list", data := .seq vs.toArray } (.lst (ns.map V.int))) else none) (fun b => ?_) (.inl (.inr ⟨{ cls := .type "list", data := .seq vs.toArray }, if_pos rfl⟩)) (fun b u z => ?_) (fun b z => ?_) fun _ => hk
    · by_cases hb : b = a
      · exact .inr ⟨_, _, if_pos hb⟩
      · exact .inl (if_neg hb)
    · by_cases hb : b = a
      · have z' := (if_pos hb).symm.trans z
        cases z'
        subst hb
        exact ⟨ha, by rw [List.length_map]; exact hl, vs, _, rv, ha⟩
      · have z' := (if_neg hb).symm.trans z
        cases z'
    · by_cases hb : b = a
      · exact hb
      · exact absurd (if_neg hb) z
end L2

namespace L2
open PySem PySem.Spec PyProof.Rows

abbrev KOf {K : PySem.W.Frag} {h : Heap} (_ : K.In h) : PySem.W.Frag := K

/-- the goal that k_head leaves (case hc), from the law's promise. F gives the function object fd (K's own) once, then the promise over every base -/
theorem walk_of {l : PySem.W.OpenLaw} {n k : Nat} {q : Program} {loose : List Str} {XP : (Str → Option Value) → Heap → Prop} {YP : World → Heap → Prop} {d : DefRec} {K : Params → PySem.W.Frag} {CX : World → CXT} {sp : World → Sp} {x : Str}
    (hn : l.most = some n) (hn2 : n ≤ sizeLine) (hdf : d.params.defaults = []) (hr : Room k callerA)
    (hY : ∀ (w : World) (h : Heap), YP w h → (K w.params).In h)
    (F : ∀ (w : World) (mg : Str → Option Value) (fa : Addr) (h : Heap), (K w.params).In h → h.Ns mainGlobals mg → mg d.name = some (.ref fa) →
      ∃ fd : FuncData, (∀ (s : Shared) (u : Value), BindsTo s fd ⟨[u], []⟩ [(x, u)]) ∧
        ∀ base : Heap, (K w.params).In base → base.Ns mainGlobals mg → FnOk l.prog w (K w.params) mg base (CX w) k fa fd [x] (sp w))
    (hsp : ∀ (w : World) (H : Hp) (a : Addr) (ns : List Int), ns.length ≤ n → Only H → SqL (K w.params) H a (ns.map V.int) → sp w [.ref a] H (fun v _ => v = .bl true) fun _ _ _ => False)
    (hCX : ∀ (w : World) (H : Hp) (s : Shared) (e : Value) (s' : Shared), CX w [] H s (fun _ _ _ => False) e s' → False) :
    PySem.W.WalkO q loose XP YP l.row.toRowW d [] (fun f vs => PySem.call f vs) := by
  refine Att.attach_call hn hdf fun w s₀ s₁ mg mb fa o pm cd doc a vs ns G Y ho hd hcd hmg hobj hints hlen hg => ?_
  have KX := hY w _ Y
  obtain ⟨fd, hb, hF⟩ := F w mg fa _ KX G.T.g hmg
  exact law_call KX G.T.g G.T.b G.T.builtins G.T.nolimit hg hobj hints (Nat.le_trans hlen hn2) hr hF hb (fun H hO hS => hsp w H a ns hlen hO hS) fun H e s' => hCX w H s₁ e s'
/-- the same where the promise hangs on the written part alone: (sp := My.sp_law), no hole under a binder -/
theorem walk_ofK {l : PySem.W.OpenLaw} {n k : Nat} {q : Program} {loose : List Str} {XP : (Str → Option Value) → Heap → Prop} {YP : World → Heap → Prop} {d : DefRec} {K : Params → PySem.W.Frag} {CX : CXT} {sp : PySem.W.Frag → Sp} {x : Str}
    (hn : l.most = some n) (hn2 : n ≤ sizeLine) (hdf : d.params.defaults = []) (hr : Room k callerA)
    (hY : ∀ (w : World) (h : Heap), YP w h → (K w.params).In h)
    (F : ∀ (w : World) (mg : Str → Option Value) (fa : Addr) (h : Heap), (K w.params).In h → h.Ns mainGlobals mg → mg d.name = some (.ref fa) →
      ∃ fd : FuncData, (∀ (s : Shared) (u : Value), BindsTo s fd ⟨[u], []⟩ [(x, u)]) ∧
        ∀ base : Heap, (K w.params).In base → base.Ns mainGlobals mg → FnOk l.prog w (K w.params) mg base CX k fa fd [x] (sp (K w.params)))
    (hsp : ∀ (K : PySem.W.Frag) (H : Hp) (a : Addr) (ns : List Int), ns.length ≤ n → Only H → SqL K H a (ns.map V.int) → sp K [.ref a] H (fun v _ => v = .bl true) fun _ _ _ => False)
    (hCX : ∀ (H : Hp) (s : Shared) (e : Value) (s' : Shared), CX [] H s (fun _ _ _ => False) e s' → False) :
    PySem.W.WalkO q loose XP YP l.row.toRowW d [] (fun f vs => PySem.call f vs) :=
  walk_of (K := K) (CX := fun _ => CX) (sp := fun w => sp (K w.params)) hn hn2 hdf hr hY F (fun w H a ns h1 h2 h3 => hsp (K w.params) H a ns h1 h2 h3) fun _ H s e s' => hCX H s e s'
end L2

/- THE LAST THEOREM (shape; LID, My.* are yours):
   My.Adr: a structure of the addresses that your layer names (classes, functions); My.Txt K t: a structure (Prop) of the equations over K;
   My.txt_mk : {K} {implicit addresses ..} (e1 : nsIn K mainGlobals "law" = some (some (.ref f))) (e2 : K.lookup f = some ⟨oc, od, .func (fnOf "law" "law" params body scope dV kV doc pm an cdv ct), sl⟩) (e3 : codeIn K cdv "law" = true) .. : ∃ t, My.Txt K t

set_option maxRecDepth 100000 in
set_option maxHeartbeats 0 in
theorem PySem.Challenge.cw_LID_holds : PySem.Challenge.rw_LID.Holds := by
  w_on; o_law; k_head; (case hw => w_witness2)
  k_fill
  refine L2.walk_of (l := PySem.Challenge.rw_LID) (n := 63) (k := 40) (x := "script") (CX := fun w => ..) (sp := fun _ => My.sp_law) rfl (by decide) rfl ⟨rfl, by decide, by decide⟩ (fun w h Y => PySem.W.kIn_of Y) ?F ?S ?C
  case F =>
    intro w mg fa h KX G hmg
    have T : ∃ t, My.Txt (L2.KOf KX) t := by
      dsimp only [L2.KOf]                          -- K must stand as «<heap const> w.params» for k_is
      refine' My.txt_mk ?e1 ?e2 ?e3 ..
      (case e1 => PySem.W.k_is)                    -- in the order: a name -> its address -> its object -> its parts
      (case e2 => PySem.W.k_is)
      ..
    obtain ⟨t, T⟩ := T
    have e0 := hmg.symm.trans (PySem.W.mg_of KX G T.law)
    cases e0                                       -- fa is the law's own address
    exact ⟨_, fun s u => .of_eq rfl, fun base kb nb => My.law_fn T kb nb⟩     -- if «.of_eq rfl» comes too early: refine' ⟨_, ?b, fun base kb nb => My.law_fn T kb nb⟩; exact fun s u => .of_eq rfl
  case S => exact fun w H a ns hl hO hS => ..
  case C => exact ..
(the tactic k_is has no namespace: write k_is) -/

/-! SHORT WORDS over the layer: a def of the text, its body, what a loop and a test want. -/
namespace L2
open PySem PySem.Spec PyProof.Rows

/-! ### the text by places -/
/-- the j-th statement of a class's body -/
def inClass (s : Stmt) (j : Nat) : Stmt := match s with
  | .ClassDef _ _ _ body _ _ _ _ _ _ _ => body.getD j (.Pass ⟨0, 0, 0, 0⟩)
  | _ => .Pass ⟨0, 0, 0, 0⟩
def defArgs (s : Stmt) : Arguments := match s with
  | .FunctionDef _ a _ _ _ _ _ _ _ _ => a
  | _ => { posonlyargs := [], args := [], vararg := none, kwonlyargs := [], kw_defaults := [], kwarg := none, defaults := [] }
def defBody (s : Stmt) : List Stmt := match s with
  | .FunctionDef _ _ b _ _ _ _ _ _ _ => b
  | _ => []
def defScope (s : Stmt) : Scope := match s with
  | .FunctionDef _ _ _ _ _ _ sc _ _ _ => sc
  | _ => { kind := .function, names := [], isGenerator := false, isCoroutine := false }

/-! ### no exception leaves a def -/
abbrev CX0 : CXT := fun _ _ _ _ _ _ => False
abbrev E0 : XK := fun _ _ _ => False
theorem pass0 {X : Cx} : Passes CX0 X E0 := fun _ _ _ _ _ _ _ h => h.elim

/-! ### a def (or method) of the text as it stands behind the top -/
structure Fun (K : PySem.W.Frag) (x qual : Str) (st : Stmt) (f : Addr) (fd : FuncData) : Prop where
  ex : ∃ (oc : Value) (od : Option Addr) (kV doc pm : Value) (an : Option Addr) (cdv ct : Value) (osl : Array (Option Value)),
    fd = PySem.W.fnOf x qual (defArgs st) (defBody st) (defScope st) .none kV doc pm an cdv ct ∧ K.lookup f = some ⟨oc, od, .func fd, osl⟩ ∧ PySem.W.codeIn K cdv qual = true
  kp : PySem.W.keepIn K (.ref f) = true
section
variable {P : Program} {w : World} {K : PySem.W.Frag} {mg : Str → Option Value} {base : Heap}
/-- THE RULE for a def: its body as a term of rules, and the reading of that term -/
theorem Fun.ok {x qual : Str} {st : Stmt} {f : Addr} {fd : FuncData} {N ps : List Str} {k : Nat} {sp : Sp} (F : Fun K x qual st f fd) (S : FnScope N ps (defScope st)) (len : ∀ vs H Q E, sp vs H Q E → vs.length = ps.length)
    (hbody : ∀ (cdv : Value) (A : Around) (outer : List Env) (s : Shared) (H : Hp) (vs : List V) (Q : VK) (E : XK), Room k (A.deeper (envOfC qual (defScope st) s.heap.objs.size f cdv)) → sp vs H Q E →
      ∃ t, PSs (cxOf CX0 P w K mg base N qual (defScope st) f cdv A outer s H E).nox (defBody st) t ∧ t { nx := fun _ H' => Q .non H', rt := Q } (start N vs) H) : FnOk P w K mg base CX0 (k + 1) f fd ps sp := by
  obtain ⟨oc, od, kV, doc, pm, an, cdv, ct, osl, rfl, lk, hcd⟩ := F.ex
  refine fn_of lk hcd S len fun A outer s H vs Q E hr hsp => ?_
  obtain ⟨t, h, q⟩ := hbody cdv A outer s H vs Q E hr hsp
  exact ⟨t, h.nox, q⟩
/-- how its arguments bind (no defaults): h is «fun _ _ _ _ _ _ us hl => match us, hl with | [_, _], _ => rfl», one _ a parameter -/
theorem Fun.binds {x qual : Str} {st : Stmt} {f : Addr} {fd : FuncData} {ps : List Str} (F : Fun K x qual st f fd)
    (h : ∀ (kV doc pm : Value) (an : Option Addr) (cdv ct : Value) (us : List Value), us.length = ps.length → bindArgs (PySem.W.fnOf x qual (defArgs st) (defBody st) (defScope st) .none kV doc pm an cdv ct) ⟨us, []⟩ = pure (ps.zip us)) : Binds K fd ps [] := by
  obtain ⟨oc, od, kV, doc, pm, an, cdv, ct, osl, rfl, lk, hcd⟩ := F.ex
  exact .all (h kV doc pm an cdv ct)
theorem fun_mk {x qual : Str} {st : Stmt} {f : Addr} {oc : Value} {od an : Option Addr} {osl : Array (Option Value)} {kV doc pm cdv ct : Value} (l : K.lookup f = some ⟨oc, od, .func (PySem.W.fnOf x qual (defArgs st) (defBody st) (defScope st) .none kV doc pm an cdv ct), osl⟩)
    (c : PySem.W.codeIn K cdv qual = true) (k : PySem.W.keepIn K (.ref f) = true) : Fun K x qual st f (PySem.W.fnOf x qual (defArgs st) (defBody st) (defScope st) .none kV doc pm an cdv ct) := ⟨⟨oc, od, kV, doc, pm, an, cdv, ct, osl, rfl, l, c⟩, k⟩
end
theorem hu_of {A : Around} {k : Nat} (hr : Room k A) : A.units + 1 < cLine := Nat.lt_of_le_of_lt (Nat.add_le_add_left (by decide : 1 ≤ 64) _) hr.units
theorem small1000 {n : Nat} (h : n ≤ 1000) : n < sizeLine := Nat.lt_of_le_of_lt h (by decide)

/-! ### expressions in short: the name that stands in the i-th slot -/
section
variable {X : Cx}
theorem pv (i : Nat) {x : Str} {pos : Pos} (hN : X.N[i]? = some x := by rfl) (hv : Vis X.env.scope x := by first | exact Or.inl rfl | exact Or.inr (Or.inl rfl) | exact Or.inr (Or.inr rfl)) (hd : (x == ("__debug__" : Str)) = false := by decide)
    (hcd : (x == ("__classdict__" : Str)) = false := by decide) : PE X (.Name x pos) (tVar i) := pe_var hN hv hd hcd
end

/-! ### tests -/
theorem iteF {A B : Prop} (h : B) : if false = true then A else B := by
  rw [if_neg Bool.false_ne_true]
  exact h
theorem iteT {A B : Prop} (h : A) : if true = true then A else B := by
  rw [if_pos rfl]
  exact h
theorem ite2 {c A B : Prop} [Decidable c] (h1 : c → A) (h2 : ¬ c → B) : if c then A else B := by
  by_cases h : c
  · rw [if_pos h]
    exact h1 h
  · rw [if_neg h]
    exact h2 h
theorem iteNS {c A B : Prop} [Decidable c] (hc : c) (h : B) : if (!decide c) = true then A else B := by
  rw [decide_eq_true hc]
  exact iteF h

/-! ### heaps -/
/-- all that was tracked is as it was -/
def Same (H H' : Hp) : Prop := ∀ b o, H b = some o → H' b = some o
theorem Same.refl (H : Hp) : Same H H := fun _ _ h => h
theorem Same.trans {H H1 H2 : Hp} (a : Same H H1) (b : Same H1 H2) : Same H H2 := fun c o h => b c o (a c o h)
theorem Same.free {H H' : Hp} (e : Same H H') {l : Addr} (h : H' l = Option.none) : H l = Option.none := by
  cases q : H l with
  | none => rfl
  | some o =>
    rw [e l o q] at h
    cases h
theorem Same.seq {K : PySem.W.Frag} {H H' : Hp} {a : Addr} {xs : List V} (e : Same H H') (h : SqL K H a xs) : SqL K H' a xs := by
  rcases h with (h | ⟨o, h⟩) | h
  · exact .inl (.inl (e _ _ h))
  · exact .inl (.inr ⟨o, e _ _ h⟩)
  · exact .inr h

end L2

namespace L3
open PySem

/-- the tests of a comprehension's clause -/
def tests (ifs : List Expr) (env : Env) : Sem Bool :=
  forIn ifs true fun c r => if r = true then (do let ok ← isTrue c env (eval c env); pure (ForInStep.yield ok)) else pure (ForInStep.yield r)

section
variable {prog : Program} {w : World} {A : Around} {R : Result → Shared → Prop} {s : Shared}

/-- the loop of a list's comprehension, whatever its target -/
theorem comp_loop {elt tg iter : Expr} {ifs : List Expr} {sc : Scope} {pos : Pos} {it acc : Value} {env : Env} (J : Nat → Shared → Prop) {EE : Value → Shared → Prop}
    (hEE : ∀ e s', EE e s' → notedBy (model prog w) A env (fun e s' => R (.error e) s') e s')
    (turn : ∀ n s, J n s → wpAny (model prog w) A (pyNext it) (fun r s₁ => (r = none → R (.ok .next) s₁) ∧ ∀ v, r = some v →
      wpAny (model prog w) A (letOwnedTupleGo tg it v) (fun _ s₂ => wpAny (model prog w) A (assign tg env v) (fun _ s₃ => wpAny (model prog w) A (tests ifs env) (fun ok s₄ =>
        (ok = true → wpAny (model prog w) A (eval elt env) (fun x s₅ => wpAny (model prog w) A (call (.builtin "list.append") [acc, x]) (fun _ s₆ => ∃ m, m < n ∧ J m s₆) EE s₅) EE s₄) ∧
        (ok = false → ∃ m, m < n ∧ J m s₄)) EE s₃) EE s₂) EE s₁) EE s)
    (n : Nat) (h : J n s) : codeAny (model prog w) A (.compLoop (.ListComp elt [⟨tg, iter, ifs, 0⟩] sc pos) 0 it acc env) R s := by
  refine codeAny_loop rfl J (fun n s hJ => ?_) n h
  show wpAny _ A ((compTurn (.ListComp elt [⟨tg, iter, ifs, 0⟩] sc pos) 0 it acc env).onRaise _) _ _ s
  refine wpAny_noted (wpAny_mono (E := EE) ?_ (fun _ _ q => q) fun e s' q => hEE e s' q)
  rw [compTurn_list]
  refine wpAny_bind (wpAny_standAt (wpAny_bind (wpAny_mono (turn n s hJ) (fun r s₁ h₁ => ?_) fun _ _ q => q)))
  cases r with
  | none => exact wpAny_pure (h₁.1 rfl)
  | some v =>
    refine wpAny_bind (wpAny_mono (h₁.2 v rfl) (fun _ s₂ h₂ => ?_) fun _ _ q => q)
    refine wpAny_bind (wpAny_mono h₂ (fun _ s₃ h₃ => ?_) fun _ _ q => q)
    refine wpAny_bind (wpAny_mono h₃ (fun ok s₄ h₄ => ?_) fun _ _ q => q)
    cases ok with
    | false => exact wpAny_pure ⟨rfl, h₄.2 rfl⟩
    | true =>
      refine wpAny_bind (wpAny_bind (wpAny_mono (h₄.1 rfl) (fun x s₅ h₅ => ?_) fun _ _ q => q))
      exact wpAny_bind (wpAny_mono h₅ (fun _ s₆ h₆ => wpAny_pure (wpAny_pure ⟨rfl, h₆⟩)) fun _ _ q => q)
theorem tests_nil {env : Env} {Q : Bool → Shared → Prop} {E : Value → Shared → Prop} (h : Q true s) : wpAny (model prog w) A (tests [] env) Q E s := wpAny_pure h
theorem tests_one {c : Expr} {env : Env} {Q : Bool → Shared → Prop} {E : Value → Shared → Prop} (h : wpAny (model prog w) A (isTrue c env (eval c env)) Q E s) : wpAny (model prog w) A (tests [c] env) Q E s := by
  unfold tests
  rw [List.forIn_cons]
  exact wpAny_bind (wpAny_bind (wpAny_mono h (fun ok s' q => wpAny_pure (wpAny_pure q)) fun _ _ q => q))

/-- the cells that a comprehension's block draws from around it -/
def clOf (cells : List (Str × Addr)) : List (Str × NameKind) → List (Str × Addr) → List (Str × Addr)
  | [], acc => acc
  | (n, k) :: r, acc => if k == .free then clOf cells r (match cells.lookup n with | some c => (n, c) :: acc | none => acc) else clOf cells r acc
theorem closure_eq {env : Env} : ∀ (names : List (Str × NameKind)) (acc : List (Str × Addr)), (∀ p ∈ names, p.2 = .free → ∃ c, env.cells.lookup p.1 = some c) →
    (forIn names acc fun (x : Str × NameKind) (cs : List (Str × Addr)) => match x with
      | (name, kind) => if (kind == NameKind.free) = true then (do let c ← cellOf env name; pure (ForInStep.yield ((name, c) :: cs))) else (pure (ForInStep.yield cs) : Sem (ForInStep (List (Str × Addr))))) = pure (clOf env.cells names acc)
  | [], acc, _ => rfl
  | (n, k) :: r, acc, h => by
    have ih := fun acc => closure_eq r acc fun p hp => h p (List.mem_cons_of_mem _ hp)
    rw [List.forIn_cons]
    by_cases hk : (k == NameKind.free) = true
    · obtain ⟨c, hc⟩ := h (n, k) List.mem_cons_self (by simpa using hk)
      have e : cellOf env n = pure c := by unfold cellOf; rw [hc]
      dsimp only
      rw [if_pos hk, e]
      unfold clOf
      rw [if_pos hk, hc]
      exact ih _
    · dsimp only
      rw [if_neg hk]
      unfold clOf
      rw [if_neg hk]
      exact ih _
theorem closure_of {env : Env} {sc : Scope} (h : ∀ p ∈ sc.names, p.2 = .free → ∃ c, env.cells.lookup p.1 = some c) : closureFor sc env = pure (clOf env.cells sc.names []) := by
  unfold closureFor
  have e := closure_eq (env := env) sc.names [] h
  simp only [e]
  rfl
theorem clOf_sub {cells : List (Str × Addr)} : ∀ (names : List (Str × NameKind)) (acc : List (Str × Addr)), (∀ x c, acc.lookup x = some c → cells.lookup x = some c) → ∀ x c, (clOf cells names acc).lookup x = some c → cells.lookup x = some c
  | [], acc, h, x, c, e => h x c e
  | (n, k) :: r, acc, h, x, c, e => by
    unfold clOf at e
    split at e
    · refine clOf_sub r _ (fun y d q => ?_) x c e
      split at q
      · rename_i c' hc'
        by_cases hy : y = n
        · subst hy
          rw [List.lookup_cons_self] at q
          cases q
          exact hc'
        · have hb : (y == n) = false := beq_eq_false_iff_ne.mpr hy
          rw [List.lookup_cons, hb] at q
          exact h y d q
      · exact h y d q
    · exact clOf_sub r acc h x c e
theorem clOf_keep {cells : List (Str × Addr)} : ∀ (names : List (Str × NameKind)) (acc : List (Str × Addr)) (x : Str), (∃ c, acc.lookup x = some c) → ∃ c, (clOf cells names acc).lookup x = some c
  | [], acc, x, h => h
  | (n, k) :: r, acc, x, h => by
    unfold clOf
    split
    · refine clOf_keep r _ x ?_
      split
      · rename_i c' hc'
        by_cases hy : x = n
        · subst hy
          exact ⟨c', List.lookup_cons_self⟩
        · have hb : (x == n) = false := beq_eq_false_iff_ne.mpr hy
          rw [List.lookup_cons, hb]
          exact h
      · exact h
    · exact clOf_keep r acc x h
theorem clOf_has {cells : List (Str × Addr)} : ∀ (names : List (Str × NameKind)) (acc : List (Str × Addr)) (x : Str), (x, NameKind.free) ∈ names → (∃ c, cells.lookup x = some c) → ∃ c, (clOf cells names acc).lookup x = some c
  | [], acc, x, h, _ => by cases h
  | (n, k) :: r, acc, x, h, hc => by
    unfold clOf
    rcases List.mem_cons.mp h with e | e
    · cases e
      obtain ⟨c, hc⟩ := hc
      rw [if_pos (beq_self_eq_true _), hc]
      exact clOf_keep r _ n ⟨c, List.lookup_cons_self⟩
    · split
      · exact clOf_has r _ x e hc
      · exact clOf_has r acc x e hc
end
end L3

namespace L3
open PySem

/-- an iterator over a list or a tuple, at place i -/
def SeqIt (b : Bool) (h : Heap) (it l : Addr) (i : Nat) : Prop := if b = true then h.IsListIter it l i else h.IsTupleIter it l i
/-- the list or tuple itself -/
def SeqIs (b : Bool) (h : Heap) (l : Addr) (xs : Array Value) : Prop := if b = true then h.IsList l xs else h.IsTuple l xs
theorem SeqIt.ext {b : Bool} {h h' : Heap} {it l c : Addr} {i : Nat} (x : SeqIt b h it l i) (e : Heap.ExtBut c h h') (n : it ≠ c) : SeqIt b h' it l i := by
  cases b with
  | true => exact (show h.IsListIter it l i from x).extBut e n
  | false => exact (show h.IsTupleIter it l i from x).extBut e n
theorem SeqIs.ext {b : Bool} {h h' : Heap} {l c : Addr} {xs : Array Value} (x : SeqIs b h l xs) (e : Heap.ExtBut c h h') (n : l ≠ c) : SeqIs b h' l xs := by
  cases b with
  | true => exact (show h.IsList l xs from x).extBut e n
  | false => exact (show h.IsTuple l xs from x).extBut e n
theorem SeqIt.at {b : Bool} {h h' : Heap} {it l : Addr} {i : Nat} (x : SeqIt b h it l i) (e : ∀ o, h.get? it = some o → h'.get? it = some o) : SeqIt b h' it l i := by
  cases b with
  | true => exact (show h.IsListIter it l i from x).at e
  | false => obtain ⟨o, ho, r⟩ := (show h.IsTupleIter it l i from x); exact ⟨o, e o ho, r⟩
theorem SeqIs.at {b : Bool} {h h' : Heap} {l : Addr} {xs : Array Value} (x : SeqIs b h l xs) (e : ∀ o, h.get? l = some o → h'.get? l = some o) : SeqIs b h' l xs := by
  cases b with
  | true => exact (show h.IsList l xs from x).at e
  | false => obtain ⟨o, ho, r⟩ := (show h.IsTuple l xs from x); exact ⟨o, e o ho, r⟩
theorem SeqIt.obj {b : Bool} {h : Heap} {it l : Addr} {i : Nat} (x : SeqIt b h it l i) : ∃ o vs, h.get? it = some o ∧ o.data = .fields vs := by
  cases b with
  | true => obtain ⟨o, e, _, d⟩ := (show h.IsListIter it l i from x); exact ⟨o, _, e, d⟩
  | false => obtain ⟨o, e, _, d⟩ := (show h.IsTupleIter it l i from x); exact ⟨o, _, e, d⟩

section
variable {prog : Program} {w : World} {A : Around} {E : Value → Shared → Prop} {s : Shared}

theorem next_tup_item {it t : Addr} {i : Nat} {its : Array Value} {x : Value} {Q : Value → Shared → Prop} (a1 : s.heap.IsTupleIter it t i) (a2 : s.heap.IsTuple t its) (a3 : its[i]? = some x)
    (k : ∀ h', h'.IsTupleIter it t (i + 1) → Heap.SameBut it s.heap h' → Q x { s with heap := h' }) : wpAny (model prog w) A (Builtin.SmallTypes.nextOf (.ref it)) Q E s := by
  obtain ⟨o, e, c, d⟩ := id a1
  obtain ⟨ot, et, _, nt, dt⟩ := a2
  unfold Builtin.SmallTypes.nextOf
  refine wpAny_bind (wpAny_callSpecial?_slot (name := Str.ofString "__next__") a1.typeIs F.slot_tuple_iterator_next (wpAny_call_entry F.slot_tuple_iterator_next a1.typeIs F.entry_tuple_iterator_next ?_ (F.args_tuple_iterator_next_1 _)))
  show wpAny _ _ (field (.ref it) 0 >>= _) _ _ s
  refine wpAny_bind (wpAny_field e d (x := .ref t) rfl ?_)
  show wpAny _ _ (if (Value.ref t == Value.none) = true then _ else _) _ _ s
  rw [if_neg (by exact Bool.false_ne_true)]
  show wpAny _ _ (field (.ref it) 1 >>= _) _ _ s
  refine wpAny_bind (wpAny_field e d (x := .int i 0) rfl ?_)
  show wpAny _ _ (seqItems? (.ref t) >>= _) _ _ s
  refine wpAny_bind (wpAny_seqItems et dt ?_)
  simp only [Int.toNat_natCast, a3]
  refine wpAny_bind (wpAny_setField e d (by simp) (wpAny_pure ⟨x, rfl, wpAny_pure (k _ ⟨_, Heap.get?_update_self _ e (Obj.isFreed_of_fields (Obj.data_mapFields d _)), (Obj.cls_mapFields ..).trans c, ?_⟩ (Heap.SameBut.update ..))⟩))
  rw [Obj.data_mapFields d]
  simp [rawInt]
theorem next_tup_end {it t : Addr} {i : Nat} {its : Array Value} {Q : Value → Shared → Prop} (hh : A.handled = none) (a1 : s.heap.IsTupleIter it t i) (a2 : s.heap.IsTuple t its) (a3 : its[i]? = none)
    (k : ∀ h' x, Heap.ExtBut it s.heap h' → (∃ o, h'.get? x = some o ∧ o.cls = .type "StopIteration") → E (.ref x) { s with heap := h' }) : wpAny (model prog w) A (Builtin.SmallTypes.nextOf (.ref it)) Q E s := by
  obtain ⟨o, e, c, d⟩ := id a1
  obtain ⟨ot, et, _, nt, dt⟩ := a2
  unfold Builtin.SmallTypes.nextOf
  refine wpAny_bind (wpAny_callSpecial?_slot (name := Str.ofString "__next__") a1.typeIs F.slot_tuple_iterator_next (wpAny_call_entry F.slot_tuple_iterator_next a1.typeIs F.entry_tuple_iterator_next ?_ (F.args_tuple_iterator_next_1 _)))
  show wpAny _ _ (field (.ref it) 0 >>= _) _ _ s
  refine wpAny_bind (wpAny_field e d (x := .ref t) rfl ?_)
  show wpAny _ _ (if (Value.ref t == Value.none) = true then _ else _) _ _ s
  rw [if_neg (by exact Bool.false_ne_true)]
  show wpAny _ _ (field (.ref it) 1 >>= _) _ _ s
  refine wpAny_bind (wpAny_field e d (x := .int i 0) rfl ?_)
  show wpAny _ _ (seqItems? (.ref t) >>= _) _ _ s
  refine wpAny_bind (wpAny_seqItems et dt ?_)
  simp only [Int.toNat_natCast, a3]
  refine wpAny_bind (wpAny_rule (wpAny_bind (wpAny_setField e d (by simp) ?_)))
  show wpAny _ _ (newExc (.type "StopIteration") [] >>= _) _ _ _
  refine wpAny_bind ?_
  unfold newExc newTuple
  refine wpAny_bind (wpAny_newObj_type ?_ (by size_fits))
  refine wpAny_bind (m := firstArgMember _ _) (wpAny_of_eq (a := Value.none) (by first | rfl | (simp only [firstArgMember]; rfl)) ?_)
  refine wpAny_newObj_type ?_ (by size_fits)
  unfold raiseNew
  refine wpAny_bind (wpAny_handled ?_)
  first | rw [show A.in1.handled = none from hh] | rw [hh]
  exact wpAny_bind (wpAny_pure (wpAny_throw (k _ _ (((Heap.SameBut.update ..).extBut.push _).push _) ⟨_, Heap.get?_push_size _ rfl, rfl⟩)))
theorem next_item {b : Bool} {it l : Addr} {i : Nat} {xs : Array Value} {x : Value} {Q : Value → Shared → Prop} (a1 : SeqIt b s.heap it l i) (a2 : SeqIs b s.heap l xs) (a3 : xs[i]? = some x)
    (k : ∀ h', SeqIt b h' it l (i + 1) → Heap.SameBut it s.heap h' → Q x { s with heap := h' }) : wpAny (model prog w) A (Builtin.SmallTypes.nextOf (.ref it)) Q E s := by
  cases b with
  | true => exact wpAny_nextOf_list_item a1 a2 a3 k
  | false => exact next_tup_item a1 a2 a3 k
theorem next_end {b : Bool} {it l : Addr} {i : Nat} {xs : Array Value} {Q : Value → Shared → Prop} (hh : A.handled = none) (a1 : SeqIt b s.heap it l i) (a2 : SeqIs b s.heap l xs) (a3 : xs[i]? = none)
    (k : ∀ h' x, Heap.ExtBut it s.heap h' → (∃ o, h'.get? x = some o ∧ o.cls = .type "StopIteration") → E (.ref x) { s with heap := h' }) : wpAny (model prog w) A (Builtin.SmallTypes.nextOf (.ref it)) Q E s := by
  cases b with
  | true => exact wpAny_nextOf_list_end hh a1 a2 a3 k
  | false => exact next_tup_end hh a1 a2 a3 k

/-- zip over two of them: one pair more -/
theorem zip_item {b1 b2 : Bool} {z TI TO i1 i2 l1 l2 : Addr} {k1 k2 : Nat} {xs ys : Array Value} {x y a b : Value} {Q : Option Value → Shared → Prop} (D : ZipApart z TI TO i1 i2 l1 l2)
    (hz : IsZip s.heap z TI TO .none) (hTI : IsPair s.heap TI (.ref i1) (.ref i2)) (hTO : IsPair s.heap TO a b) (n1 : SeqIt b1 s.heap i1 l1 k1) (n2 : SeqIt b2 s.heap i2 l2 k2) (m1 : SeqIs b1 s.heap l1 xs) (m2 : SeqIs b2 s.heap l2 ys)
    (hx : xs[k1]? = some x) (hy : ys[k2]? = some y)
    (hQ : ∀ h', IsZip h' z TI TO (rawInt s.heap.objs.size) → IsPair h' TO x y → SeqIt b1 h' i1 l1 (k1 + 1) → SeqIt b2 h' i2 l2 (k2 + 1) → IsPair h' s.heap.objs.size x y →
      (∀ c o, c ≠ z → c ≠ TO → c ≠ i1 → c ≠ i2 → s.heap.get? c = some o → h'.get? c = some o) → Q (some (.ref s.heap.objs.size)) { s with heap := h' }) : wpAny (model prog w) A (pyNext (.ref z)) Q E s := by
  have hT : s.TypeIs (.ref z) "zip" := ⟨_, hz, rfl⟩
  unfold pyNext
  refine wpAny_bind (wpAny_attempt (wpAny_callSpecial?_slot (name := Str.ofString "__next__") hT F.slot_zip_next (wpAny_call_entry F.slot_zip_next hT F.entry_zip_next ?_ (F.args_zip_next_1 _))))
  show wpAny _ _ (field (.ref z) 2 >>= _) _ _ s
  refine wpAny_bind (wpAny_field hz rfl (x := .bool false) rfl ?_)
  show wpAny _ _ (field (.ref z) 3 >>= _) _ _ s
  refine wpAny_bind (wpAny_field hz rfl (x := .ref TI) rfl (wpAny_bind (wpAny_seqItems hTI rfl ?_)))
  show wpAny _ _ (Builtin.SmallTypes.ownedTupleIsFree (.ref z) >>= _) _ _ s
  unfold Builtin.SmallTypes.ownedTupleIsFree
  refine wpAny_bind (wpAny_bind (wpAny_field hz rfl (x := .none) rfl (wpAny_pure ?_)))
  simp only [if_true]
  refine wpAny_bind (wpAny_rule (wpAny_bind (wpAny_field hz rfl (x := .ref TO) rfl (wpAny_bind (wpAny_setField_rec hz (by simp) fun g1 hz1 s1 => ?_)))))
  have hz1 : IsZip g1 z TI TO .ellipsis := hz1
  simp only [List.zipIdx_cons, List.zipIdx_nil, List.forIn_cons, List.forIn_nil]
  refine wpAny_bind (wpAny_bind (wpAny_bind (wpAny_onRaise ?_)))
  show wpAny _ _ (Builtin.SmallTypes.nextOf (.ref i1) >>= _) _ _ _
  refine wpAny_bind (next_item (n1.ext s1.extBut D.i1z) (m1.ext s1.extBut D.l1z) hx fun g2 n1' s2 => wpAny_pure ?_)
  have t2 : IsPair g2 TO a b := s2.extBut _ _ D.TOi1 (s1.extBut _ _ D.TOz hTO)
  refine wpAny_bind (wpAny_seqItems t2 rfl (wpAny_bind (wpAny_updateSeq_pair t2 fun g3 t3 s3 => wpAny_bind (wpAny_letGo (wpAny_pure ?_)))))
  have t3 : IsPair g3 TO x b := t3
  refine wpAny_bind (wpAny_bind (wpAny_onRaise ?_))
  show wpAny _ _ (Builtin.SmallTypes.nextOf (.ref i2) >>= _) _ _ _
  refine wpAny_bind (next_item (((n2.ext s1.extBut D.i2z).ext s2.extBut D.i12.symm).ext s3.extBut D.TOi2.symm) (((m2.ext s1.extBut D.l2z).ext s2.extBut D.l2i1).ext s3.extBut D.l2TO) hy fun g4 n2' s4 => wpAny_pure ?_)
  have t4 : IsPair g4 TO x b := s4.extBut _ _ D.TOi2 t3
  refine wpAny_bind (wpAny_seqItems t4 rfl (wpAny_bind (wpAny_updateSeq_pair t4 fun g5 t5 s5 => wpAny_bind (wpAny_letGo (wpAny_pure (wpAny_pure ?_))))))
  have t5 : IsPair g5 TO x y := t5
  refine wpAny_bind (wpAny_seqItems t5 rfl (wpAny_bind (wpAny_newTuple ?_)))
  have hsz : g5.objs.size = s.heap.objs.size := by rw [s5.1, s4.1, s3.1, s2.1, s1.1]
  have hz5 : IsZip g5 z TI TO .ellipsis := s5.extBut _ _ D.TOz.symm (s4.extBut _ _ D.i2z.symm (s3.extBut _ _ D.TOz.symm (s2.extBut _ _ D.i1z.symm hz1)))
  have k5 : ∀ c o, c ≠ z → c ≠ TO → c ≠ i1 → c ≠ i2 → s.heap.get? c = some o → g5.get? c = some o := fun c o c1 c2 c3 c4 e =>
    s5.extBut _ _ c2 (s4.extBut _ _ c4 (s3.extBut _ _ c2 (s2.extBut _ _ c3 (s1.extBut _ _ c1 e))))
  have n15 : SeqIt b1 g5 i1 l1 (k1 + 1) := ((n1'.ext s3.extBut D.TOi1.symm).ext s4.extBut D.i12).ext s5.extBut D.TOi1.symm
  have n25 : SeqIt b2 g5 i2 l2 (k2 + 1) := n2'.ext s5.extBut D.TOi2.symm
  have zlt : z < g5.objs.size := Heap.lt_size hz5
  show wpAny _ _ (Builtin.SmallTypes.ownedTupleHandOut (.ref z) (.ref g5.objs.size) >>= _) _ _ _
  unfold Builtin.SmallTypes.ownedTupleHandOut
  have hz6 : IsZip (g5.push { cls := .type "tuple", data := .seq #[x, y] }) z TI TO .ellipsis := Heap.get?_push_of_some _ hz5
  refine wpAny_bind (wpAny_bind (wpAny_setField_rec hz6 (by simp) fun g7 hz7 s7 => ?_))
  have hz7 : IsZip g7 z TI TO (rawInt g5.objs.size) := hz7
  refine wpAny_setField_rec hz7 (by simp) fun g8 hz8 s8 => ?_
  have hz8 : IsZip g8 z TI TO (rawInt g5.objs.size) := hz8
  have up : ∀ c o, c ≠ z → g5.get? c = some o → g8.get? c = some o := fun c o c1 e => s8.extBut _ _ c1 (s7.extBut _ _ c1 (Heap.get?_push_of_some _ e))
  have hT8 : IsPair g8 g5.objs.size x y := s8.extBut _ _ (Nat.ne_of_gt zlt) (s7.extBut _ _ (Nat.ne_of_gt zlt) (Heap.get?_push_size _ rfl))
  rw [hsz] at hz8 hT8
  refine wpAny_pure ⟨_, rfl, ?_⟩
  show wpAny _ _ (pure (some (Value.ref g5.objs.size)) : Sem (Option Value)) _ _ _
  rw [hsz]
  exact wpAny_pure (hQ g8 hz8 (up _ _ D.TOz t5) (n15.at fun o e => up _ o D.i1z e) (n25.at fun o e => up _ o D.i2z e) hT8 fun c o c1 c2 c3 c4 e => up c o c1 (k5 c o c1 c2 c3 c4 e))
theorem zip_end {b1 b2 : Bool} {z TI TO i1 i2 l1 l2 : Addr} {k1 k2 : Nat} {xs ys : Array Value} {a b : Value} {Q : Option Value → Shared → Prop} (hh : A.handled = none) (D : ZipApart z TI TO i1 i2 l1 l2)
    (hz : IsZip s.heap z TI TO .none) (hTI : IsPair s.heap TI (.ref i1) (.ref i2)) (hTO : IsPair s.heap TO a b) (n1 : SeqIt b1 s.heap i1 l1 k1) (n2 : SeqIt b2 s.heap i2 l2 k2) (m1 : SeqIs b1 s.heap l1 xs) (m2 : SeqIs b2 s.heap l2 ys)
    (hend : xs[k1]? = none ∨ ys[k2]? = none)
    (hQ : ∀ h', (∀ c o, c ≠ z → c ≠ TO → c ≠ i1 → c ≠ i2 → s.heap.get? c = some o → h'.get? c = some o) → Q none { s with heap := h' }) : wpAny (model prog w) A (pyNext (.ref z)) Q E s := by
  have hT : s.TypeIs (.ref z) "zip" := ⟨_, hz, rfl⟩
  have fin : ∀ (h' : Heap) (e : Addr), (∀ c o, c ≠ z → c ≠ TO → c ≠ i1 → c ≠ i2 → s.heap.get? c = some o → h'.get? c = some o) → (∃ o, h'.get? e = some o ∧ o.cls = .type "StopIteration") →
      wpAny (model prog w) A (do if ← isInstance (.ref e) (.type "StopIteration") then pure none else throw (.ref e)) Q E { s with heap := h' } := fun h' e hk ⟨o, ho, hc⟩ =>
    wpAny_bind (wpAny_isInstance (T := "StopIteration") (b := true) ⟨o, ho, hc⟩ isSubtype_stop (wpAny_pure (hQ _ hk)))
  unfold pyNext
  refine wpAny_bind (wpAny_attempt (wpAny_callSpecial?_slot (name := Str.ofString "__next__") hT F.slot_zip_next (wpAny_call_entry F.slot_zip_next hT F.entry_zip_next ?_ (F.args_zip_next_1 _))))
  show wpAny _ _ (field (.ref z) 2 >>= _) _ _ s
  refine wpAny_bind (wpAny_field hz rfl (x := .bool false) rfl ?_)
  show wpAny _ _ (field (.ref z) 3 >>= _) _ _ s
  refine wpAny_bind (wpAny_field hz rfl (x := .ref TI) rfl (wpAny_bind (wpAny_seqItems hTI rfl ?_)))
  show wpAny _ _ (Builtin.SmallTypes.ownedTupleIsFree (.ref z) >>= _) _ _ s
  unfold Builtin.SmallTypes.ownedTupleIsFree
  refine wpAny_bind (wpAny_bind (wpAny_field hz rfl (x := .none) rfl (wpAny_pure ?_)))
  simp only [if_true]
  refine wpAny_bind (wpAny_rule (wpAny_bind (wpAny_field hz rfl (x := .ref TO) rfl (wpAny_bind (wpAny_setField_rec hz (by simp) fun g1 hz1 s1 => ?_)))))
  have hz1 : IsZip g1 z TI TO .ellipsis := hz1
  simp only [List.zipIdx_cons, List.zipIdx_nil, List.forIn_cons, List.forIn_nil]
  refine wpAny_bind (wpAny_bind (wpAny_bind (wpAny_onRaise ?_)))
  show wpAny _ _ (Builtin.SmallTypes.nextOf (.ref i1) >>= _) _ _ _
  cases hx : xs[k1]? with
  | none =>
    refine wpAny_bind (next_end hh (n1.ext s1.extBut D.i1z) (m1.ext s1.extBut D.l1z) hx fun g2 e s2 he => ?_)
    obtain ⟨oe, hoe, hce⟩ := he
    have hz2 : IsZip g2 z TI TO .ellipsis := s2 _ _ D.i1z.symm hz1
    have hez : e ≠ z := fun q => by subst q; rw [hz2] at hoe; cases hoe; simp at hce
    exact wpAny_setField_rec hz2 (by simp) fun g3 _ s3 => fin g3 e (fun c o c1 _ c3 _ q => s3.extBut _ _ c1 (s2 _ _ c3 (s1.extBut _ _ c1 q))) ⟨oe, s3.extBut _ _ hez hoe, hce⟩
  | some x =>
    have hy : ys[k2]? = none := by
      rcases hend with q | q
      · rw [hx] at q; cases q
      · exact q
    refine wpAny_bind (next_item (n1.ext s1.extBut D.i1z) (m1.ext s1.extBut D.l1z) hx fun g2 n1' s2 => wpAny_pure ?_)
    have t2 : IsPair g2 TO a b := s2.extBut _ _ D.TOi1 (s1.extBut _ _ D.TOz hTO)
    refine wpAny_bind (wpAny_seqItems t2 rfl (wpAny_bind (wpAny_updateSeq_pair t2 fun g3 t3 s3 => wpAny_bind (wpAny_letGo (wpAny_pure ?_)))))
    refine wpAny_bind (wpAny_bind (wpAny_onRaise ?_))
    show wpAny _ _ (Builtin.SmallTypes.nextOf (.ref i2) >>= _) _ _ _
    refine wpAny_bind (next_end hh (((n2.ext s1.extBut D.i2z).ext s2.extBut D.i12.symm).ext s3.extBut D.TOi2.symm) (((m2.ext s1.extBut D.l2z).ext s2.extBut D.l2i1).ext s3.extBut D.l2TO) hy fun g4 e s4 he => ?_)
    obtain ⟨oe, hoe, hce⟩ := he
    have hz4 : IsZip g4 z TI TO .ellipsis := s4 _ _ D.i2z.symm (s3.extBut _ _ D.TOz.symm (s2.extBut _ _ D.i1z.symm hz1))
    have hez : e ≠ z := fun q => by subst q; rw [hz4] at hoe; cases hoe; simp at hce
    exact wpAny_setField_rec hz4 (by simp) fun g5 _ s5 => fin g5 e (fun c o c1 c2 c3 c4 q => s5.extBut _ _ c1 (s4 _ _ c4 (s3.extBut _ _ c2 (s2.extBut _ _ c3 (s1.extBut _ _ c1 q))))) ⟨oe, s5.extBut _ _ hez hoe, hce⟩
theorem iter_seq {b : Bool} {l : Addr} {xs : Array Value} {Q : Value → Shared → Prop} (m : SeqIs b s.heap l xs)
    (k : ∀ h', SeqIt b h' s.heap.objs.size l 0 → h'.objs.size = s.heap.objs.size + 1 → (∀ c o, s.heap.get? c = some o → h'.get? c = some o) → Q (.ref s.heap.objs.size) { s with heap := h' }) : wpAny (model prog w) A (pyIter (.ref l)) Q E s := by
  cases b with
  | true => exact wpAny_pyIter_list m (k _ ⟨_, Heap.get?_push_size _ rfl, rfl, rfl⟩ (Heap.size_push _ _) fun c o e => Heap.get?_push_of_some _ e)
  | false => exact wpAny_pyIter_tuple m (k _ ⟨_, Heap.get?_push_size _ rfl, rfl, rfl⟩ (Heap.size_push _ _) fun c o e => Heap.get?_push_of_some _ e)

abbrev itObj (b : Bool) (l : Addr) : Obj := { cls := .type (if b = true then "list_iterator" else "tuple_iterator"), data := .fields #[.ref l, .int 0 0] }
theorem iter_obj {b : Bool} {l : Addr} {xs : Array Value} {Q : Value → Shared → Prop} (m : SeqIs b s.heap l xs) (k : Q (.ref s.heap.objs.size) { s with heap := s.heap.push (itObj b l) }) : wpAny (model prog w) A (pyIter (.ref l)) Q E s := by
  cases b with
  | true => exact wpAny_pyIter_list m k
  | false => exact wpAny_pyIter_tuple m k
theorem itObj_at {b : Bool} {h : Heap} {a l : Addr} (e : h.get? a = some (itObj b l)) : SeqIt b h a l 0 := by
  cases b with
  | true => exact ⟨_, e, rfl, rfl⟩
  | false => exact ⟨_, e, rfl, rfl⟩
end
abbrev zp1 (b1 : Bool) (h : Heap) (l1 : Addr) : Heap := h.push (itObj b1 l1)
abbrev zp2 (b1 b2 : Bool) (h : Heap) (l1 l2 : Addr) : Heap := (zp1 b1 h l1).push (itObj b2 l2)
abbrev zp3 (b1 b2 : Bool) (h : Heap) (l1 l2 : Addr) : Heap := (zp2 b1 b2 h l1 l2).push { cls := .type "tuple", data := .seq #[.ref h.objs.size, .ref (zp1 b1 h l1).objs.size] }
abbrev zp4 (b1 b2 : Bool) (h : Heap) (l1 l2 : Addr) : Heap := (zp3 b1 b2 h l1 l2).push { cls := .type "tuple", data := .seq #[.none, .none] }
abbrev zp5 (b1 b2 : Bool) (h : Heap) (l1 l2 : Addr) : Heap := (zp4 b1 b2 h l1 l2).push { cls := .type "zip", data := .fields #[.none, .bool false, .bool false, .ref (zp2 b1 b2 h l1 l2).objs.size, .ref (zp3 b1 b2 h l1 l2).objs.size] }
theorem SeqIs.push {b : Bool} {h : Heap} {l : Addr} {xs : Array Value} (x : SeqIs b h l xs) (o : Obj) : SeqIs b (h.push o) l xs := x.at fun _ e => Heap.get?_push_of_some _ e
theorem zip_new (b1 b2 : Bool) (l1 l2 : Addr) (xs ys : Array Value) :
    Meets (Builtin.«zip.__new__» ⟨[.type "zip", .ref l1, .ref l2], []⟩) (fun _ R s => SeqIs b1 s.heap l1 xs ∧ SeqIs b2 s.heap l2 ys ∧ R (.ok (.ret (.ref (zp4 b1 b2 s.heap l1 l2).objs.size))) { s with heap := zp5 b1 b2 s.heap l1 l2 }) :=
  .of_wp fun prog w A R s h => by
    obtain ⟨hp, g, d, tk, os⟩ := s
    obtain ⟨m1, m2, h⟩ := h
    have hsub := sub_zip
    have M1 : SeqIs b1 (Shared.heap ⟨hp, g, d, tk, os⟩) l1 xs := m1
    have M2 : SeqIs b2 (Shared.heap ⟨hp.push (itObj b1 l1), g, d, tk, os⟩) l2 ys := SeqIs.push m2 _
    wp_walk using iter_obj M1, iter_obj M2
    exact ⟨_, rfl, h⟩
section
variable {prog : Program} {w : World} {A : Around} {E : Value → Shared → Prop} {s : Shared}
theorem zip_call {b1 b2 : Bool} {l1 l2 : Addr} {xs ys : Array Value} {Q : Value → Shared → Prop} (m1 : SeqIs b1 s.heap l1 xs) (m2 : SeqIs b2 s.heap l2 ys)
    (k : ∀ h', IsZip h' (s.heap.objs.size + 4) (s.heap.objs.size + 2) (s.heap.objs.size + 3) .none → IsPair h' (s.heap.objs.size + 2) (.ref s.heap.objs.size) (.ref (s.heap.objs.size + 1)) →
      IsPair h' (s.heap.objs.size + 3) .none .none → SeqIt b1 h' s.heap.objs.size l1 0 → SeqIt b2 h' (s.heap.objs.size + 1) l2 0 → (∀ c o, s.heap.get? c = some o → h'.get? c = some o) → Q (.ref (s.heap.objs.size + 4)) { s with heap := h' }) :
    wpAny (model prog w) A (call (.type "zip") [.ref l1, .ref l2]) Q E s := by
  refine callType_new F.called_zip (by decide) (F.typeCall_zip_2 _ _) (F.newCall_zip_2 _ _) (fun obj => F.args_object_init_3 obj _ _) F.entry_zip_new (zip_new b1 b2 l1 l2 xs ys) ⟨m1, m2, ?_⟩
  have z1 : (zp1 b1 s.heap l1).objs.size = s.heap.objs.size + 1 := Heap.size_push ..
  have z2 : (zp2 b1 b2 s.heap l1 l2).objs.size = s.heap.objs.size + 2 := by rw [Heap.size_push, z1]
  have z3 : (zp3 b1 b2 s.heap l1 l2).objs.size = s.heap.objs.size + 3 := by rw [Heap.size_push, z2]
  have z4 : (zp4 b1 b2 s.heap l1 l2).objs.size = s.heap.objs.size + 4 := by rw [Heap.size_push, z3]
  have q5 : (zp5 b1 b2 s.heap l1 l2).get? (zp4 b1 b2 s.heap l1 l2).objs.size = some _ := Heap.get?_push_size _ rfl
  have q4 : (zp5 b1 b2 s.heap l1 l2).get? (zp3 b1 b2 s.heap l1 l2).objs.size = some _ := Heap.get?_push_of_some _ (Heap.get?_push_size _ rfl)
  have q3 : (zp5 b1 b2 s.heap l1 l2).get? (zp2 b1 b2 s.heap l1 l2).objs.size = some _ := Heap.get?_push_of_some _ (Heap.get?_push_of_some _ (Heap.get?_push_size _ rfl))
  have q2 : (zp5 b1 b2 s.heap l1 l2).get? (zp1 b1 s.heap l1).objs.size = some _ := Heap.get?_push_of_some _ (Heap.get?_push_of_some _ (Heap.get?_push_of_some _ (Heap.get?_push_size _ rfl)))
  have q1 : (zp5 b1 b2 s.heap l1 l2).get? s.heap.objs.size = some _ := Heap.get?_push_of_some _ (Heap.get?_push_of_some _ (Heap.get?_push_of_some _ (Heap.get?_push_of_some _ (Heap.get?_push_size _ rfl))))
  show _ ∧ _
  rw [z2, z3, z4] at q5
  rw [z1, z2] at q3
  rw [z3] at q4
  rw [z1] at q2
  rw [z4]
  exact ⟨⟨_, q5, rfl⟩, k _ q5 q3 q4 (itObj_at q1) (itObj_at q2) fun c o x => Heap.get?_push_of_some _ (Heap.get?_push_of_some _ (Heap.get?_push_of_some _ (Heap.get?_push_of_some _ (Heap.get?_push_of_some _ x))))⟩
end
end L3

namespace L3
open PySem
open AutoSeq1 (wpAny_loadPart')

theorem enum_newT (l : Addr) (its : Array Value) (n : Nat) (dct : Option Addr) (sl : Array (Option Value)) :
    Meets (Builtin.«enumerate.__new__» ⟨[.type "enumerate", .ref l], []⟩) (fun _ R s => s.heap.get? l = some { cls := .type "tuple", dict := dct, data := .seq its n, slots := sl } ∧
      R (.ok (.ret (.ref (s.heap.push (itObj false l)).objs.size))) { s with heap := (s.heap.push (itObj false l)).push { cls := .type "enumerate", data := .fields #[.none, .bool false, .ref s.heap.objs.size, rawInt 0, .none, .none] } }) :=
  .of_wp fun prog w A R s h => by
    obtain ⟨hp, g, d, tk, os⟩ := s
    obtain ⟨q, h⟩ := h
    have hsub := sub_enumerate
    have M : SeqIs false (Shared.heap ⟨hp, g, d, tk, os⟩) l its := ⟨_, q, rfl, n, rfl⟩
    wp_walk using wpAny_loadPart' q
    refine wpAny_stack_any fun st => wpAny_pure ?_
    split
    · rename_i c _ _ _ _ _
      cases (c == Value.type "enumerate") <;> (wp_walk using wpAny_loadPart' q, iter_obj M; exact ⟨_, rfl, h⟩)
    · wp_walk using wpAny_loadPart' q, iter_obj M
      exact ⟨_, rfl, h⟩
section
variable {prog : Program} {w : World} {A : Around} {E : Value → Shared → Prop} {s : Shared}
theorem enum_call {b : Bool} {l : Addr} {xs : Array Value} {Q : Value → Shared → Prop} (m : SeqIs b s.heap l xs)
    (k : ∀ h', IsEnum h' (s.heap.objs.size + 1) s.heap.objs.size 0 .none → SeqIt b h' s.heap.objs.size l 0 → (∀ c o, s.heap.get? c = some o → h'.get? c = some o) → Q (.ref (s.heap.objs.size + 1)) { s with heap := h' }) :
    wpAny (model prog w) A (call (.type "enumerate") [.ref l]) Q E s := by
  cases b with
  | true => exact call_enumerate_list (show s.heap.IsList l xs from m) fun h' a1 a2 _ a4 => k h' a1 a2 a4
  | false =>
    obtain ⟨⟨c, dct, dt, sl⟩, hl, hc, n, hd⟩ := (show s.heap.IsTuple l xs from m)
    have hc : c = .type "tuple" := hc
    have hd : dt = .seq xs n := hd
    subst hc hd
    refine callType_new F.called_enumerate (by decide) (F.typeCall_enumerate_1 _) (F.newCall_enumerate_1 _) (fun obj => F.args_object_init_2 obj _) F.entry_enumerate_new (enum_newT l xs n dct sl) ⟨hl, ?_⟩
    have hz : (s.heap.push (itObj false l)).objs.size = s.heap.objs.size + 1 := Heap.size_push ..
    have he : IsEnum ((s.heap.push (itObj false l)).push { cls := .type "enumerate", data := .fields #[.none, .bool false, .ref s.heap.objs.size, rawInt 0, .none, .none] }) (s.heap.objs.size + 1) s.heap.objs.size 0 .none := by
      have q := Heap.get?_push_size (s.heap.push (itObj false l)) (o := { cls := .type "enumerate", data := .fields #[.none, .bool false, .ref s.heap.objs.size, rawInt 0, .none, .none] }) rfl
      rw [hz] at q
      exact q
    show _ ∧ _
    rw [hz]
    exact ⟨⟨_, he, rfl⟩, k _ he ⟨_, Heap.get?_push_of_some _ (Heap.get?_push_size _ rfl), rfl, rfl⟩ fun c o x => Heap.get?_push_of_some _ (Heap.get?_push_of_some _ x)⟩
/-- what enumerate draws from -/
theorem draws_seq {b : Bool} (hh : A.handled = none) (it l : Addr) (hne : l ≠ it) (xs : Array Value) : Draws prog w A it [it, l] xs.size (fun i v => xs[i]? = some v) (fun i h => SeqIt b h it l i ∧ SeqIs b h l xs) where
  live := fun _ _ st => let ⟨o, _, e, _⟩ := st.1.obj; ⟨o, e⟩
  frame := fun _ _ _ st hk => ⟨st.1.at fun o e => hk it (by simp) o e, st.2.at fun o e => hk l (by simp) o e⟩
  item := fun i s Q E hi st hQ => next_item st.1 st.2 (x := xs[i]) (by simp [hi]) fun h' n' sb => hQ _ h' s.toks (by simp [hi]) ⟨n', st.2.ext sb.extBut hne⟩ sb
  done := fun s Q E st hE => next_end hh st.1 st.2 (by simp) hE
end
end L3

namespace L2
open PySem PySem.Spec PyProof.Rows L3

/-! ### a comprehension's block -/
def cxC (X : Cx) (sc : Scope) (N : List Str) (s : Shared) (H : Hp) (ex : List Addr) (C : Addr) : Cx :=
  { X with N := N, s₀ := s, H₀ := H, env := compEnvC sc (clOf X.env.cells sc.names []) C X.env, outer := X.stack, ex := ex, fn := fun _ => false, pn := [], xe := fun _ _ => False }
/-- what the block's scope must be: own names, names drawn from around it (idx: their slots there) -/
structure ScC (X : Cx) (sc : Scope) (N : List Str) (idx : List Nat) : Prop where
  kind : sc.kind = .function
  nocell : ∀ y ∈ sc.names, y.2 ≠ .cell
  locs : ∀ y ∈ sc.names, y.2 = .local → sc.names.lookup y.1 = some .local
  frees : ∀ y ∈ sc.names, y.2 = .free → X.env.scope.names.lookup y.1 = some .cell
  le : idx.length ≤ N.length
  cap : ∀ (k i : Nat) (x : Str), idx[k]? = some i → N[k]? = some x → X.N[i]? = some x ∧ sc.names.lookup x = some .free
/-- the block's names at its start -/
def capS (idx : List Nat) (n : Nat) (σ : St) : St := idx.map (fun i => (σ[i]?).join) ++ List.replicate (n - idx.length) none
theorem capS_len {idx : List Nat} {n : Nat} {σ : St} (h : idx.length ≤ n) : (capS idx n σ).length = n := by
  unfold capS
  rw [List.length_append, List.length_map, List.length_replicate]
  omega
theorem capS_get {idx : List Nat} {n k : Nat} {σ : St} {v : V} (h : (capS idx n σ)[k]? = some (some v)) : ∃ i, idx[k]? = some i ∧ σ[i]? = some (some v) := by
  unfold capS at h
  by_cases hk : k < idx.length
  · rw [List.getElem?_append_left (by simpa using hk), List.getElem?_map] at h
    cases e : idx[k]? with
    | none => rw [e] at h; cases h
    | some i =>
      rw [e] at h
      have h' : (σ[i]?).join = some v := Option.some.inj h
      refine ⟨i, rfl, ?_⟩
      cases e2 : σ[i]? with
      | none => rw [e2] at h'; cases h'
      | some o => rw [e2] at h'; rw [show o = some v from h']
  · rw [List.getElem?_append_right (by simpa using hk), List.getElem?_replicate] at h
    split at h
    · cases h
    · cases h

/-- what relabel does to one name -/
def rl (env : Env) (p : Str × NameKind) : Str × NameKind := if (p.2 == NameKind.free && env.scope.kind == .function && env.kindOf p.1 == some .cell) = true then (p.1, NameKind.cell) else p
theorem rl_names (sc : Scope) (env : Env) : (relabel sc env).names = sc.names.map (rl env) := rfl
theorem rl_hit {env : Env} {n : Str} {k : NameKind} (h : (k == NameKind.free && env.scope.kind == .function && env.kindOf n == some .cell) = true) : rl env (n, k) = (n, .cell) := if_pos h
theorem rl_miss {env : Env} {n : Str} {k : NameKind} (h : ¬ (k == NameKind.free && env.scope.kind == .function && env.kindOf n == some .cell) = true) : rl env (n, k) = (n, k) := if_neg h
theorem relabel_free {env : Env} (hf : env.scope.kind = .function) : ∀ {names : List (Str × NameKind)} {x : Str}, names.lookup x = some .free → env.kindOf x = some .cell → (names.map (rl env)).lookup x = some .cell
  | [], _, h, _ => by simp at h
  | (n, k) :: r, x, h, hc => by
    have ih := @relabel_free env hf r x
    rw [List.map_cons]
    by_cases hx : x = n
    · subst hx
      rw [List.lookup_cons_self] at h
      cases h
      rw [rl_hit (by rw [hf, hc]; decide), List.lookup_cons_self]
    · have hb : (x == n) = false := beq_eq_false_iff_ne.mpr hx
      rw [List.lookup_cons, hb] at h
      have e := ih h hc
      by_cases q : (k == NameKind.free && env.scope.kind == .function && env.kindOf n == some .cell) = true
      · rw [rl_hit q, List.lookup_cons, hb]; exact e
      · rw [rl_miss q, List.lookup_cons, hb]; exact e
theorem relabel_back {env : Env} : ∀ {names : List (Str × NameKind)} {x : Str} {kd : NameKind}, (names.map (rl env)).lookup x = some kd → (x, kd) ∈ names ∨ (x, NameKind.free) ∈ names
  | [], _, _, h => by simp at h
  | (n, k) :: r, x, kd, h => by
    have ih := @relabel_back env r x kd
    rw [List.map_cons] at h
    by_cases q : (k == NameKind.free && env.scope.kind == .function && env.kindOf n == some .cell) = true
    · rw [rl_hit q] at h
      by_cases hx : x = n
      · subst hx
        have hk : k = .free := by
          rw [Bool.and_eq_true, Bool.and_eq_true] at q
          exact eq_of_beq q.1.1
        subst hk
        exact .inr List.mem_cons_self
      · have hb : (x == n) = false := beq_eq_false_iff_ne.mpr hx
        rw [List.lookup_cons, hb] at h
        exact (ih h).elim (fun e => .inl (List.mem_cons_of_mem _ e)) fun e => .inr (List.mem_cons_of_mem _ e)
    · rw [rl_miss q] at h
      by_cases hx : x = n
      · subst hx
        rw [List.lookup_cons_self] at h
        cases h
        exact .inl List.mem_cons_self
      · have hb : (x == n) = false := beq_eq_false_iff_ne.mpr hx
        rw [List.lookup_cons, hb] at h
        exact (ih h).elim (fun e => .inl (List.mem_cons_of_mem _ e)) fun e => .inr (List.mem_cons_of_mem _ e)

/-- an untracked young object is tracked from here on -/
theorem Inv.adopt {X : Cx} {pins : List (Addr × Obj)} {σ : St} {H : Hp} {s : Shared} {a : Addr} {o : HO} (I : Inv X pins σ H s) (hn : H a = none) (ya : X.s₀.heap.objs.size ≤ a) (hL : a ≠ X.env.locals)
    (hc : ∀ x c, X.env.cells.lookup x = some c → c ≠ a) (hp : ∀ p ∈ X.pn ++ pins, p.1 ≠ a) (new : ObjOk X.prog X.w (upd H a o) s.heap a o) : Inv X pins σ (upd H a o) s := by
  have ne : ∀ b u, H b = some u → b ≠ a := fun b u e => ne_of_none e hn
  refine ⟨I.ok, I.os, I.bare, ⟨I.base.keep, I.base.slot, fun b u q n hx => ?_, I.base.there, fun b xs q => ?_, fun b u xs q => ?_, fun b ps q => ?_⟩, I.loc, I.cell, ?_, fun x c e => ?_, fun p hq => ?_, fun b u q => ?_, I.len⟩
  · rw [upd_ne (Nat.ne_of_lt (Nat.lt_of_lt_of_le (Heap.lt_size q) ya))]
    exact I.base.free b u q n hx
  · have e := I.base.tups b xs q
    rw [upd_ne (ne b _ e)]; exact e
  · have e := I.base.frzs b u xs q
    rw [upd_ne (ne b _ e)]; exact e
  · obtain ⟨m, e⟩ := I.base.tbls b ps q
    exact ⟨m, by rw [upd_ne (ne b _ e)]; exact e⟩
  · rw [upd_ne (Ne.symm hL)]; exact I.free
  · rw [upd_ne (hc x c e)]; exact I.freeC x c e
  · obtain ⟨e1, e2, e3⟩ := I.pin p hq
    exact ⟨e1, by rw [upd_ne (hp p hq)]; exact e2, e3⟩
  · by_cases hb : b = a
    · subst hb; rw [upd_same] at q; cases q; exact new
    · rw [upd_ne hb] at q
      exact (I.hok b u q).stay (fun _ _ _ z => z) (fun c z => by rw [upd_ne (ne c _ z)]; exact z) fun c xs z => by rw [upd_ne (ne c _ z)]; exact z

section
variable {X : Cx} {pins : List (Addr × Obj)} {σ : St} {H : Hp} {s : Shared} {sc : Scope} {N : List Str} {idx : List Nat} {fp : List Addr}
abbrev nilObj : Obj := { cls := .type "list", data := .seq ([] : List Value).toArray }
abbrev withAcc (s : Shared) : Shared := { s with heap := s.heap.push nilObj }
theorem young_fp (I : Inv X pins σ H s) {b : Addr} (h : FpOk X pins H b) : X.base.get? b = none := by
  cases e : X.base.get? b with
  | none => rfl
  | some o =>
    rcases h.2.2.2.1 with z | z
    · exact absurd z (I.ok.noex b o e)
    · exact absurd (Nat.lt_of_lt_of_le (Heap.lt_size e) (Nat.le_trans I.ok.bsz z)) (Nat.lt_irrefl _)
/-- the block is entered -/
theorem comp_inv (I : Inv X pins σ H s) (S : ScC X sc N idx) (hf : ∀ b ∈ fp, FpOk X pins H b) (ho : ∀ b ∈ fp, ∃ o, s.heap.get? b = some o) {h' : Heap} {m : Str → Option Value} {t : Nat}
    (hns : h'.Ns (s.heap.push nilObj).objs.size m) (hk : ∀ b o, (s.heap.push nilObj).get? b = some o → h'.get? b = some o) :
    Inv (cxC X sc N (withAcc s) H (s.heap.objs.size :: fp) (s.heap.push nilObj).objs.size) [] (capS idx N.length σ) H { withAcc s with heap := h', toks := t } := by
  have I3 : Inv X pins σ H (withAcc s) := I.kept (t' := s.toks) fun b o e => Heap.get?_push_of_some _ e
  have hC : (s.heap.push nilObj).objs.size = s.heap.objs.size + 1 := Heap.size_push _ _
  have cl_sub : ∀ x c, (clOf X.env.cells sc.names []).lookup x = some c → X.env.cells.lookup x = some c := clOf_sub sc.names [] (fun x c e => by cases e)
  have clt : ∀ x c, (clOf X.env.cells sc.names []).lookup x = some c → c < s.heap.objs.size := fun x c e => by
    obtain ⟨v, z⟩ := I.cell x c (cl_sub x c e)
    exact z.lt
  have flt : ∀ b ∈ fp, b < s.heap.objs.size := fun b hb => by
    obtain ⟨o, e⟩ := ho b hb
    exact Heap.lt_size e
  have back : ∀ x, ((relabel sc X.env).names.lookup x = some .cell ∨ (relabel sc X.env).names.lookup x = some .free) → (x, NameKind.free) ∈ sc.names := fun x h => by
    rcases h with h | h
    · rcases relabel_back (env := X.env) (names := sc.names) (show (sc.names.map (rl X.env)).lookup x = _ from h) with e | e
      · exact absurd rfl (S.nocell _ e)
      · exact e
    · rcases relabel_back (env := X.env) (names := sc.names) (show (sc.names.map (rl X.env)).lookup x = _ from h) with e | e
      · exact e
      · exact e
  have has : ∀ x, (x, NameKind.free) ∈ sc.names → ∃ c, (clOf X.env.cells sc.names []).lookup x = some c := fun x e =>
    clOf_has sc.names [] x e (I.ok.has x (.inl (S.frees _ e rfl)))
  refine ⟨⟨I.ok.mod, S.kind, I.ok.glob, I.ok.blt, Nat.le_refl _, fun x y c e1 e2 => I.ok.inj x y c (cl_sub x c e1) (cl_sub y c e2), fun x h => has x (back x h), fun x c h => (by cases h), I.ok.hd, I.ok.frames, .inl rfl, fun b hb => ?_, I3.bs,
    Nat.le_trans I.ok.bsz I3.sz, fun b o e hb => ?_, fun b hb => ?_, I3.stack, I3.stkFree⟩, I.os ▸ rfl, I.bare, Un.kept hk, ⟨m, hns, fun k x v e1 e2 e3 => ?_⟩, fun x c e => ?_, I3.hok.fresh (Nat.le_refl _), fun x c e => I.freeC x c (cl_sub x c e),
    fun p hp => absurd (show p ∈ ([] : List (Addr × Obj)) from hp) (by simp), I3.hok.kept hk, capS_len S.le⟩
  · rcases List.mem_cons.mp hb with e | hb
    · subst e
      exact ⟨by rw [hC]; exact Nat.ne_of_lt (Nat.lt_succ_self _), fun x c e => Nat.ne_of_lt (clt x c e)⟩
    · refine ⟨by rw [hC]; exact Nat.ne_of_lt (Nat.lt_succ_of_lt (flt b hb)), fun x c e => (hf b hb).2.2.2.2.1 x c (cl_sub x c e)⟩
  · rcases List.mem_cons.mp hb with z | hb
    · subst z
      exact absurd (Heap.lt_size (I.bk _ _ e)) (Nat.lt_irrefl _)
    · have e' : X.base.get? b = some o := e
      rw [young_fp I (hf b hb)] at e'; cases e'
  · intro hs
    have hs' := I.stkSub b hs
    rcases List.mem_cons.mp hb with z | hb
    · subst z
      rcases List.mem_cons.mp hs' with e | e
      · exact absurd I.lt (by rw [← e]; exact Nat.lt_irrefl _)
      · exact I.nofs (Nat.le_refl _) e
    · rcases List.mem_cons.mp hs' with e | e
      · exact (hf b hb).2.1 e
      · exact (hf b hb).2.2.1 e
  · obtain ⟨i, h1, h2⟩ := capS_get e2
    obtain ⟨h3, h4⟩ := S.cap k i x h1 e1
    have hfr : (x, NameKind.free) ∈ sc.names := PySem.mem_of_lookup h4
    have hcell : X.env.scope.names.lookup x = some .cell := S.frees _ hfr rfl
    obtain ⟨m', hn', hl'⟩ := I.loc
    obtain ⟨u, r, l⟩ := hl' i x v h3 h2 (.inr (.inl hcell))
    refine ⟨u, r, .inr ⟨.inl (relabel_free I.ok.kind h4 hcell), ?_⟩⟩
    rcases l with ⟨q, _⟩ | ⟨_, c, ec, z⟩
    · have q' : X.env.scope.names.lookup x = some .local := q
      rw [hcell] at q'; cases q'
    · obtain ⟨c', ec'⟩ := has x hfr
      have := cl_sub x c' ec'
      rw [ec] at this; cases this
      exact ⟨c, ec', z.keeps fun b o e => hk b o (Heap.get?_push_of_some _ e)⟩
  · obtain ⟨v, z⟩ := I.cell x c (cl_sub x c e)
    exact ⟨v, z.keeps fun b o e => hk b o (Heap.get?_push_of_some _ e)⟩
/-- the block is left -/
theorem comp_out {σ' : St} {H' : Hp} {s' : Shared} {pl : List (Addr × Obj)} (I : Inv X pins σ H s) (hf : ∀ b ∈ fp, FpOk X pins H b)
    (I' : Inv (cxC X sc N (withAcc s) H (s.heap.objs.size :: fp) (s.heap.push nilObj).objs.size) pl σ' H' s') : Inv X pins σ H' s' := by
  have I3 : Inv X pins σ H (withAcc s) := I.kept (t' := s.toks) fun b o e => Heap.get?_push_of_some _ e
  have fa : FpOk X pins H s.heap.objs.size := I.fpOk (Nat.le_refl _) (I.hok.fresh (Nat.le_refl _))
  refine I3.call' (ch := s.heap.objs.size :: fp) (I'.os.trans rfl) I'.base I'.hok I'.bare fun b hb => ?_
  have q : FpOk X pins H b := by
    rcases List.mem_cons.mp hb with e | hb
    · subst e; exact fa
    · exact hf b hb
  exact ⟨q.2.2.2.1, q.2.1, q.2.2.2.2.1, q.2.2.2.2.2⟩
end

/-! ### the reading -/
abbrev TTs := St → Hp → (Bool → Hp → Prop) → Prop
/-- no test, one test -/
def tYes : TTs := fun _ H Q => Q true H
def PTs (X : Cx) (ifs : List Expr) (t : TTs) : Prop :=
  ∀ (pins : List (Addr × Obj)) (s : Shared) (σ : St) (H : Hp) (Q : Bool → Hp → Prop), Inv X pins σ H s → t σ H Q → wpAny (model X.prog X.w) X.A (tests ifs X.env) (TP X pins σ Q) X.xe s
theorem pts_nil {X : Cx} : PTs X [] tYes := fun _ _ _ H _ I h => tests_nil ⟨H, I, h⟩
theorem pts_one {X : Cx} {c : Expr} {t : TT} (h : PT X c t) : PTs X [c] t := fun pins s σ H Q I q => tests_one (h pins s σ H Q I q)

/-- the first n slots are as they were -/
def KeepN (n : Nat) (σ σ2 : St) : Prop := σ2.length = σ.length ∧ ∀ i, i < n → σ2[i]? = σ[i]?
/-- W: by the turn, a measure, what is gathered, the heap; σ0: the block's names at each turn's start -/
def CompW (J : It) (g : TG) (tc : TTs) (te : TE) (σ0 : St) (H1 : Hp) (K : List V → Hp → Prop) : Prop :=
  ∃ W : Nat → Nat → List V → Hp → Prop, (∃ m, W 0 m [] H1) ∧ ∀ i m ys H, W i m ys H →
    (J.stop i H ∧ K ys H) ∨
    (J.go i H ∧ ys.length < sizeLine ∧ ∃ N : List V → Hp → Prop, (∀ zs H', N zs H' → ∃ m', m' < m ∧ W (i + 1) m' zs H') ∧
      ∀ x H', J.yld i H x H' → g x σ0 H' fun σ2 H2 => tc σ2 H2 fun b H3 => if b = true then te σ2 H3 (fun y H4 => N (ys ++ [y]) H4) else N ys H3)
def tComp (wi : TI) (g : TG) (tc : TTs) (te : TE) (idx : List Nat) (n : Nat) : TE := fun σ H Q => wi σ H fun J H1 =>
  CompW J g tc te (capS idx n σ) H1 fun ys H2 => ys.length ≤ sizeLine ∧ ∀ p, H2 p = none → Q (.ref p) (upd H2 p (.lst ys))
/-- a target touches its own slots alone -/
def GKeep (n : Nat) (g : TG) : Prop := ∀ x σ H Q, g x σ H Q → g x σ H fun σ2 H2 => Q σ2 H2 ∧ KeepN n σ σ2
theorem keep_set {n k : Nat} {σ : St} {v : Option V} (h : n ≤ k) : KeepN n σ (σ.set k v) := ⟨List.length_set, fun i hi => List.getElem?_set_ne (by omega)⟩
theorem gkeep_name {n k : Nat} (h : n ≤ k) : GKeep n (gName k) := fun x σ H Q q => ⟨q, keep_set h⟩
theorem gkeep_pair {K : PySem.W.Frag} {n k l : Nat} (h : n ≤ k) (h' : n ≤ l) : GKeep n (gTup K 2 (gCons (gName k) (gCons (gName l) gNil))) := fun x σ H Q q => by
  obtain ⟨a, xs, e1, e2, e3, v, r, e4, v', r', e5, e6, q⟩ := q
  refine ⟨a, xs, e1, e2, e3, v, r, e4, v', r', e5, e6, q, ?_⟩
  have k1 : KeepN n σ (σ.set k (some v)) := keep_set h
  have k2 : KeepN n (σ.set k (some v)) ((σ.set k (some v)).set l (some v')) := keep_set h'
  exact ⟨k2.1.trans k1.1, fun i hi => (k2.2 i hi).trans (k1.2 i hi)⟩
theorem weak_cap {X : Cx} {pins : List (Addr × Obj)} {σ σ2 : St} {H : Hp} {s : Shared} {idx : List Nat} {n : Nat} (I : Inv X pins σ2 H s) (k : KeepN idx.length (capS idx n σ) σ2) : Inv X pins (capS idx n σ) H s :=
  I.weak k.1.symm fun i v e => by
    obtain ⟨j, h1, _⟩ := capS_get e
    rw [k.2 i (List.getElem?_eq_some_iff.mp h1).1]
    exact e
/-- the usual form: n turns, P between them -/
theorem compW_of {J : It} {g : TG} {tc : TTs} {te : TE} {σ0 : St} {H1 : Hp} {K : List V → Hp → Prop} {n : Nat} (P : Nat → List V → Hp → Prop) (hn : n ≤ sizeLine) (h0 : P 0 [] H1) (hle : ∀ i ys H, P i ys H → ys.length ≤ i)
    (hgo : ∀ i ys H, i < n → P i ys H → J.go i H) (hst : ∀ ys H, P n ys H → J.stop n H)
    (hs : ∀ i ys H, i < n → P i ys H → ∀ x H', J.yld i H x H' → g x σ0 H' fun σ2 H2 => tc σ2 H2 fun b H3 => if b = true then te σ2 H3 (fun y H4 => P (i + 1) (ys ++ [y]) H4) else P (i + 1) ys H3)
    (hd : ∀ ys H, P n ys H → K ys H) : CompW J g tc te σ0 H1 K := by
  refine ⟨fun i m ys H => m = n - i ∧ i ≤ n ∧ P i ys H, ⟨n, by simp, Nat.zero_le _, h0⟩, ?_⟩
  rintro i m ys H ⟨rfl, hi, p⟩
  by_cases hlt : i < n
  · refine .inr ⟨hgo i ys H hlt p, by have := hle i ys H p; omega, P (i + 1), fun zs H' p' => ⟨n - (i + 1), by omega, rfl, hlt, p'⟩, hs i ys H hlt p⟩
  · have e : i = n := by omega
    subst e
    exact .inl ⟨hst ys H p, hd ys H p⟩

section
variable {X : Cx} {tg elt iter : Expr} {ifs : List Expr} {wi : TI} {g : TG} {tc : TTs} {te : TE} {sc : Scope} {N : List Str} {idx : List Nat} {pos : Pos}
/-- the block run: at its end the list gathered stands at the address ahead of the frame -/
theorem comp_run {pins : List (Addr × Obj)} {s : Shared} {σ : St} {H : Hp} {K : List V → Hp → Prop} {E : Value → Shared → Prop} {RR : Addr → Value → Result → Shared → Prop} (hc : X.calm = true) (S : ScC X sc N idx) (gk : GKeep idx.length g)
    (hg : ∀ s H ex C, PG (cxC X sc N s H ex C) tg g) (ht : ∀ s H ex C, PTs (cxC X sc N s H ex C) ifs tc) (he : ∀ s H ex C, PE (cxC X sc N s H ex C) elt te)
    {it : Addr} {fp : List Addr} {tn : Nat → Heap → Prop} {J : It} (I : Inv X pins σ H s) (T : Turn X.prog X.w X.K tg J fp it tn) (st : tn 0 s.heap) (hf : ∀ b ∈ fp, FpOk X pins H b) (hW : CompW J g tc te (capS idx N.length σ) H K)
    (hR : ∀ (s' : Shared) (ys : List V) (H' : Hp) (m : Str → Option Value) (its : List Value) (n : Nat), K ys H' → Inv X pins σ H' s' → s'.heap.Ns (s.heap.push nilObj).objs.size m → H' (s.heap.push nilObj).objs.size = none → H' s.heap.objs.size = none → Vals ys its →
      s'.heap.get? s.heap.objs.size = some { cls := .type "list", data := .seq its.toArray n } → RR (s.heap.push nilObj).objs.size (.ref s.heap.objs.size) (.ok .next) s') :
    wpAny (model X.prog X.w) X.A (newList []) (fun acc s₃ => wpAny (model X.prog X.w) X.A (newFunctionEnv sc X.env.globals (clOf X.env.cells sc.names []) [] X.env.qual none .none (some X.env)) (fun cenv s₄ =>
      codeAny (model X.prog X.w) X.A (.compStart (.ListComp elt [⟨tg, iter, ifs, 0⟩] sc pos) 0 (.ref it) acc { cenv with scope := relabel sc X.env }) (RR cenv.locals acc) s₄) E s₃) E s := by
  obtain ⟨W, ⟨m0, w0⟩, turn⟩ := hW
  refine wpAny_newObj_type (wpAny_newFunctionEnv S.nocell (by intro y hy; cases hy) (fun h' hns hsb => ?_) S.kind)
  have hC : (s.heap.push nilObj).objs.size = s.heap.objs.size + 1 := Heap.size_push _ _
  have hk : ∀ b o, (s.heap.push nilObj).get? b = some o → h'.get? b = some o := fun b o e => (hsb.2 b (Nat.ne_of_lt (Heap.lt_size e))).trans (Heap.get?_push_of_some _ e)
  have ho : ∀ b ∈ fp, ∃ o, s.heap.get? b = some o := fun b hb => let ⟨o, e, _⟩ := T.obj _ _ st b hb; ⟨o, e⟩
  have I0 := comp_inv (t := s.toks + ([] : List (Str × Value)).length) I S hf ho hns hk
  have fn : ∀ b ∈ fp, b ≠ s.heap.objs.size := fun b hb => by
    obtain ⟨o, e⟩ := ho b hb
    exact Nat.ne_of_lt (Heap.lt_size e)
  have accN : H s.heap.objs.size = none := I.hok.fresh (Nat.le_refl _)
  -- an iterator's record in the block's eyes
  have fpC : ∀ {H' : Hp} {pl : List (Addr × Obj)}, (∀ b ∈ fp, H' b = none) → (∀ p ∈ pl, p.1 = s.heap.objs.size) → ∀ b ∈ fp, FpOk (cxC X sc N (withAcc s) H (s.heap.objs.size :: fp) (s.heap.push nilObj).objs.size) pl H' b := fun {H' pl} hn hp b hb => by
    refine ⟨hn b hb, (I0.ok.exf b (List.mem_cons_of_mem _ hb)).1, I0.ok.exfs b (List.mem_cons_of_mem _ hb), .inl (List.mem_cons_of_mem _ hb), (I0.ok.exf b (List.mem_cons_of_mem _ hb)).2, fun p hq => ?_⟩
    have hq' : p ∈ pl := by simpa [cxC] using hq
    rw [hp p hq']
    exact Ne.symm (fn b hb)
  have loop : codeAny (model X.prog X.w) X.A (.compLoop (.ListComp elt [⟨tg, iter, ifs, 0⟩] sc pos) 0 (.ref it) (.ref s.heap.objs.size) (compEnvC sc (clOf X.env.cells sc.names []) (s.heap.push nilObj).objs.size X.env))
      (RR (s.heap.push nilObj).objs.size (.ref s.heap.objs.size)) { withAcc s with heap := h', toks := s.toks + ([] : List (Str × Value)).length } := by
    refine comp_loop (EE := fun _ _ => False) (fun n s' => ∃ i ys H' its k, Inv (cxC X sc N (withAcc s) H (s.heap.objs.size :: fp) (s.heap.push nilObj).objs.size) [] (capS idx N.length σ) H' s' ∧ tn i s'.heap ∧ (∀ b ∈ fp, H' b = none) ∧ H' s.heap.objs.size = none ∧
      Vals ys its ∧ s'.heap.get? s.heap.objs.size = some { cls := .type "list", data := .seq its.toArray k } ∧ W i n ys H') (fun _ _ z => z.elim) ?_ m0 ?_
    · rintro n s3 ⟨i, ys, H3, its, kk, I3, st3, fr3, an3, rv3, ac3, w3⟩
      have accC : ∀ {H' : Hp}, H' s.heap.objs.size = none → FpOk (cxC X sc N (withAcc s) H (s.heap.objs.size :: fp) (s.heap.push nilObj).objs.size) [] H' s.heap.objs.size := fun {H'} hn =>
        ⟨hn, (I0.ok.exf _ List.mem_cons_self).1, I0.ok.exfs _ List.mem_cons_self, .inl List.mem_cons_self, (I0.ok.exf _ List.mem_cons_self).2, fun p hq => absurd (show p ∈ ([] : List (Addr × Obj)) from hq) (by simp)⟩
      have P3 : Inv (cxC X sc N (withAcc s) H (s.heap.objs.size :: fp) (s.heap.push nilObj).objs.size) [(s.heap.objs.size, { cls := .type "list", data := .seq its.toArray kk })] (capS idx N.length σ) H3 s3 := I3.pins_of fun p hp => by
        have e : p = (s.heap.objs.size, { cls := .type "list", data := .seq its.toArray kk }) := by simpa using hp
        subst e
        exact ⟨ac3, an3, (accC an3).2.1, (accC an3).2.2.1, fun v z => by cases z⟩
      have one : ∀ p ∈ [((s.heap.objs.size, { cls := .type "list", data := .seq its.toArray kk }) : Addr × Obj)], p.1 = s.heap.objs.size := fun p hp => by
        have e : p = (s.heap.objs.size, { cls := .type "list", data := .seq its.toArray kk }) := by simpa using hp
        rw [e]
      rcases turn i n ys H3 w3 with ⟨stop, kq⟩ | ⟨go, hz, NN, hNN, step⟩
      · refine thn (T.done (cxC X sc N (withAcc s) H (s.heap.objs.size :: fp) (s.heap.push nilObj).objs.size) rfl rfl rfl hc i _ s3 _ H3 _ P3 (fpC fr3 one) st3 stop) fun r s4 ⟨hr, I4⟩ => ⟨fun _ => ?_, fun v e => (by rw [hr] at e; cases e)⟩
        obtain ⟨m', hn', _⟩ := I4.loc
        exact hR s4 ys H3 m' its kk kq (comp_out I hf I4) hn' I4.free an3 rv3 (I4.pin _ (List.mem_append_right _ List.mem_cons_self)).1
      · refine thn (T.item (cxC X sc N (withAcc s) H (s.heap.objs.size :: fp) (s.heap.push nilObj).objs.size) rfl rfl rfl hc i _ s3 _ H3 _ P3 (fpC fr3 one) st3 go) fun r s4 ⟨u, hr, h4⟩ => ⟨fun e => (by rw [hr] at e; cases e), fun v e => ?_⟩
        rw [hr] at e
        cases e
        refine thn h4 fun _ s5 ⟨x, H5, I5, r5, y5, st5, fr5⟩ => ?_
        have I5' := I5.pinned (fpC fr5 one) (T.obj _ _ st5)
        refine thn (hg _ _ _ _ _ s5 _ H5 x u _ I5' r5 (gk _ _ _ _ (step x H5 y5))) fun _ s6 ⟨σ6, H6, I6, q6, k6⟩ => ?_
        refine thn (ht _ _ _ _ _ s6 σ6 H6 _ I6 q6) fun ok s7 ⟨H7, I7, q7⟩ => ⟨fun e => ?_, fun e => ?_⟩
        · subst e
          rw [if_pos rfl] at q7
          refine thn (he _ _ _ _ _ s7 σ6 H7 _ I7 q7) fun v s8 ⟨y, H8, I8, r8, n8⟩ => ?_
          obtain ⟨m', hm, w8⟩ := hNN _ _ n8
          have pa := I8.pin (s.heap.objs.size, { cls := .type "list", data := .seq its.toArray kk }) (List.mem_append_right _ (List.mem_append_left _ List.mem_cons_self))
          have hlen := rv3.length
          refine wpAny_list_append_plain (items := its.toArray) ⟨kk, pa.1⟩ (fun h9 pl9 sb9 => ?_) (by rw [List.size_toArray]; omega)
          have I8' : Inv (cxC X sc N (withAcc s) H (s.heap.objs.size :: fp) (s.heap.push nilObj).objs.size) (pinsAt fp s5.heap) σ6 H8 s8 := I8.pins_of fun p hp => I8.pin p (List.mem_append_right _ (List.mem_append_right _ hp))
          have I9 := I8'.turned (h' := h9) (t' := s8.toks) (it := s.heap.objs.size) (fun b o hb e => (sb9.2 b hb).trans e) pa.2.1 (accC pa.2.1).2.1 (.inl List.mem_cons_self) (accC pa.2.1).2.2.2.2.1 (fun p hp => by
            have hp' : p ∈ pinsAt fp s5.heap := by simpa [cxC] using hp
            exact fn p.1 (of_pinsAt hp').1)
          obtain ⟨k9, e9⟩ := pl9
          refine ⟨m', hm, i + 1, ys ++ [y], H8, its ++ [v], k9, weak_cap (I9.pins_of (fun p hp => absurd hp (by simp))) k6, T.keep _ _ _ st5 fun b hb o e => ?_, fun b hb => ?_, pa.2.1, rv3.append (.cons r8 .nil), ?_, w8⟩
          · have q := (I8'.pin (b, o) (List.mem_append_right _ (mem_pinsAt hb e))).1
            exact (sb9.2 b (fn b hb)).trans q
          · obtain ⟨o, e, _⟩ := T.obj _ _ st5 b hb
            exact (I8'.pin (b, o) (List.mem_append_right _ (mem_pinsAt hb e))).2.1
          · rw [e9]
            simp
        · subst e
          rw [if_neg Bool.false_ne_true] at q7
          obtain ⟨m', hm, w7⟩ := hNN _ _ q7
          have pa := I7.pin (s.heap.objs.size, { cls := .type "list", data := .seq its.toArray kk }) (List.mem_append_right _ (List.mem_append_left _ List.mem_cons_self))
          refine ⟨m', hm, i + 1, ys, H7, its, kk, weak_cap (I7.pins_of (fun p hp => absurd hp (by simp))) k6, T.keep _ _ _ st5 fun b hb o e => ?_, fun b hb => ?_, pa.2.1, rv3, pa.1, w7⟩
          · exact (I7.pin (b, o) (List.mem_append_right _ (List.mem_append_right _ (mem_pinsAt hb e)))).1
          · obtain ⟨o, e, _⟩ := T.obj _ _ st5 b hb
            exact (I7.pin (b, o) (List.mem_append_right _ (List.mem_append_right _ (mem_pinsAt hb e)))).2.1
    · exact ⟨0, [], H, [], 0, I0, T.keep _ _ _ st fun b hb o e => hk b o (Heap.get?_push_of_some _ e), fun b hb => (hf b hb).1, accN, .nil, hk _ _ (Heap.get?_push_size _ rfl), w0⟩
  exact codeAny_compStart_list loop (T.self _ 0 _ _ _ (T.keep _ _ _ st fun b hb o e => hk b o (Heap.get?_push_of_some _ e)) loop)
/-- [elt for tg in iter if ..] -/
theorem pe_comp (hc : X.calm = true) (S : ScC X sc N idx) (gk : GKeep idx.length g) (hi : PI X tg iter wi)
    (hg : ∀ s H ex C, PG (cxC X sc N s H ex C) tg g) (ht : ∀ s H ex C, PTs (cxC X sc N s H ex C) ifs tc) (he : ∀ s H ex C, PE (cxC X sc N s H ex C) elt te)
    (hs : ∀ x, foldedSetIterable iter X.env x = pure x := by intro _; rfl) : PE X (.ListComp elt [⟨tg, iter, ifs, 0⟩] sc pos) (tComp wi g tc te idx N.length) := by
  intro pins s σ H Q I h
  rw [eval_ListComp]
  have hcl : closureFor sc X.env = pure (clOf X.env.cells sc.names []) := closure_of fun p hp e => I.ok.has p.1 (.inl (S.frees p hp e))
  refine wpAny_comprehension_free (use := none) rfl hs hcl S.kind S.locs (thn (hi pins s σ H _ I h) fun v s1 h1 => thn h1 fun itv s2 h2 => ?_)
  obtain ⟨it, fp, tn, J, H2, e, I2, T, st2, f2, hW⟩ := h2
  subst e
  refine comp_run (RR := fun C acc => compPost (model X.prog X.w) X.A X.xe none (EP X pins σ Q) acc C) hc S gk hg ht he I2 T st2 f2 hW fun s' ys H' m its n kq I' hns hCn hAn rv ea => ?_
  have hC : (s2.heap.push nilObj).objs.size = s2.heap.objs.size + 1 := Heap.size_push _ _
  have fa : FpOk X pins H2 s2.heap.objs.size := I2.fpOk (Nat.le_refl _) (I2.hok.fresh (Nat.le_refl _))
  have fC : FpOk X pins H2 (s2.heap.push nilObj).objs.size := I2.fpOk (by rw [hC]; exact Nat.le_succ _) (I2.hok.fresh (by rw [hC]; exact Nat.le_succ _))
  have ya : X.s₀.heap.objs.size ≤ s2.heap.objs.size := I2.sz
  have I1 := Inv.adopt (o := .lst ys) I' hAn ya fa.2.1 fa.2.2.2.2.1 fa.2.2.2.2.2 ⟨kq.1, its, n, rv, ea⟩
  refine ⟨m, hns, fun h' sb => ⟨.ref s2.heap.objs.size, _, I1.turned (h' := h') (t' := s'.toks) (it := (s2.heap.push nilObj).objs.size) (fun b o hb e => (sb.2 b hb).trans e) ?_ fC.2.1 (.inr (by rw [hC]; exact Nat.le_succ_of_le ya)) fC.2.2.2.2.1 fC.2.2.2.2.2, rfl, kq.2 _ hAn⟩⟩
  rw [upd_ne (by rw [hC]; exact Nat.succ_ne_self _)]
  exact hCn
/-- x = [elt for tg in iter if ..], x a plain local name: stored ahead of the block's end -/
theorem ps_setComp {i : Nat} {x : Str} {pos' spos : Pos} (hN : X.N.Nodup) (hx : X.N[i]? = some x) (hl : X.env.scope.names.lookup x = some .local) (hc : X.calm = true) (S : ScC X sc N idx) (gk : GKeep idx.length g) (hi : PI X tg iter wi)
    (hg : ∀ s H ex C, PG (cxC X sc N s H ex C) tg g) (ht : ∀ s H ex C, PTs (cxC X sc N s H ex C) ifs tc) (he : ∀ s H ex C, PE (cxC X sc N s H ex C) elt te)
    (hsw : swapsWith (.ListComp elt [⟨tg, iter, ifs, 0⟩] sc pos) (some (.Name x pos')) spos.line X.env = pure true := by rfl)
    (hs : ∀ x, foldedSetIterable iter X.env x = pure x := by intro _; rfl) : PS X (.Assign [.Name x pos'] (.ListComp elt [⟨tg, iter, ifs, 0⟩] sc pos) spos) (tAsg (tComp wi g tc te idx N.length) (gName i)) := by
  intro pins s σ H D I h
  rw [exec_Assign_Name_used _ _ _ _ hsw]
  refine wpAny_bind (wpAny_standAt (wpAny_bind ?_))
  have hcl : closureFor sc X.env = pure (clOf X.env.cells sc.names []) := closure_of fun p hp e => I.ok.has p.1 (.inl (S.frees p hp e))
  show wpAny _ X.A (do let _ ← comprehension (.ListComp elt [⟨tg, iter, ifs, 0⟩] sc pos) sc X.env _ (newList []) false (eval iter X.env) (some (assign (.Name x pos') X.env))) _ _ s
  refine wpAny_bind (wpAny_mono (wpAny_comprehension_free (use := some (assign (.Name x pos') X.env)) (Q := fun _ s' => SP X pins D .next s') rfl hs hcl S.kind S.locs
    (thn (hi pins s σ H _ I h) fun v s1 h1 => thn h1 fun itv s2 h2 => ?_)) (fun _ s' q => wpAny_pure (wpAny_pure q)) fun _ _ q => q)
  obtain ⟨it, fp, tn, J, H2, e, I2, T, st2, f2, hW⟩ := h2
  subst e
  refine comp_run (RR := fun C acc => compPost (model X.prog X.w) X.A X.xe (some (assign (.Name x pos') X.env)) (fun _ s' => SP X pins D .next s') acc C) hc S gk hg ht he I2 T st2 f2 hW fun s' ys H' m its n kq I' hns hCn hAn rv ea => ?_
  have hC : (s2.heap.push nilObj).objs.size = s2.heap.objs.size + 1 := Heap.size_push _ _
  have fa : FpOk X pins H2 s2.heap.objs.size := I2.fpOk (Nat.le_refl _) (I2.hok.fresh (Nat.le_refl _))
  have fC : FpOk X pins H2 (s2.heap.push nilObj).objs.size := I2.fpOk (by rw [hC]; exact Nat.le_succ _) (I2.hok.fresh (by rw [hC]; exact Nat.le_succ _))
  have ya : X.s₀.heap.objs.size ≤ s2.heap.objs.size := I2.sz
  have I1 := Inv.adopt (o := .lst ys) I' hAn ya fa.2.1 fa.2.2.2.2.1 fa.2.2.2.2.2 ⟨kq.1, its, n, rv, ea⟩
  have hCn' : upd H' s2.heap.objs.size (.lst ys) (s2.heap.push nilObj).objs.size = none := by
    rw [upd_ne (by rw [hC]; exact Nat.succ_ne_self _)]
    exact hCn
  show wpAny (model X.prog X.w) X.A (assign (.Name x pos') X.env (.ref s2.heap.objs.size)) _ X.xe s'
  refine wpAny_assign_Name (store_ok2 (v := .ref s2.heap.objs.size) I1 hN hx (.inl hl) rfl (fun s3 I3 ⟨a, sb, ha⟩ => ?_) (.inr hl))
  have aC : (s2.heap.push nilObj).objs.size ≠ a := by
    rcases ha with e | e
    · rw [e]; exact fC.2.1
    · exact Ne.symm (fC.2.2.2.2.1 x a e)
  refine ⟨m, hns.sameBut sb aC, fun h' sb' => ⟨_, _, I3.turned (h' := h') (t' := s3.toks) (it := (s2.heap.push nilObj).objs.size) (fun b o hb e => (sb'.2 b hb).trans e) hCn' fC.2.1 (.inr (by rw [hC]; exact Nat.le_succ_of_le ya)) fC.2.2.2.2.1 fC.2.2.2.2.2, kq.2 _ hAn⟩⟩
end
end L2

namespace L2
open PySem PySem.Spec PyProof.Rows L3

/-! ### several records turned at once -/
theorem Inv.turnedL {X : Cx} {pins : List (Addr × Obj)} {σ : St} {H : Hp} {s : Shared} {h' : Heap} {t' : Nat} {ch : List Addr} (I : Inv X pins σ H s) (k : ∀ b o, b ∉ ch → s.heap.get? b = some o → h'.get? b = some o)
    (hc : ∀ b ∈ ch, FpOk X pins H b) : Inv X pins σ H { s with heap := h', toks := t' } := by
  have nch : ∀ b u, H b = some u → b ∉ ch := fun b u e z => by rw [(hc b z).1] at e; cases e
  refine I.step (g' := s.gens) (d' := s.drawn) (ch := ch) (fun b hb => ⟨(hc b hb).2.2.2.1, (hc b hb).2.1, (hc b hb).2.2.2.2.1, (hc b hb).2.2.2.2.2⟩) (fun b o _ _ z e _ => k b o z e) (fun b o _ _ z e _ => ⟨o.slots, k b o z e⟩) (fun _ _ _ _ n => n)
    (fun b o z e => ⟨o, k b o z e⟩) (fun _ _ e => e) (fun _ _ _ e => e) (fun b ps e => ⟨#[], by rw [e]; simp⟩) (fun m hm => ?_) (fun b u e => ?_) I.bare
  · obtain ⟨o, es, ep, ho, r⟩ := hm
    exact ⟨o, es, ep, k _ o (fun z => (hc _ z).2.1 rfl) ho, r⟩
  · refine (I.hok b u e).stay (fun c v hq q => k c v ?_ q) (fun _ q => q) fun _ _ q => q
    rcases hq with z | z
    · rw [z]; exact nch b u e
    · exact nch c _ z

/-! ### a list or a tuple, by one word -/
def Sq (b : Bool) (K : PySem.W.Frag) (H : Hp) (a : Addr) (xs : List V) : Prop := if b = true then SqL K H a xs else SqT K H a xs
theorem sq_is {X : Cx} {pins : List (Addr × Obj)} {σ : St} {H : Hp} {s : Shared} {b : Bool} {a : Addr} {xs : List V} (I : Inv X pins σ H s) (h : Sq b X.K H a xs) : ∃ its : List Value, Vals xs its ∧ SeqIs b s.heap a its.toArray ∧ xs.length ≤ sizeLine := by
  cases b with
  | true =>
    obtain ⟨its, r, p, z⟩ := I.list h
    exact ⟨its, r, p.isList, z⟩
  | false =>
    obtain ⟨its, r, p, z⟩ := I.tuple h
    exact ⟨its, r, p, z⟩
theorem sq_inj {X : Cx} {pins : List (Addr × Obj)} {σ : St} {H : Hp} {s : Shared} {b : Bool} {a : Addr} {xs ys : List V} (I : Inv X pins σ H s) (h : Sq b X.K H a xs) (h' : Sq b X.K H a ys) : xs = ys := by
  cases b with
  | true => exact I.list_inj h h'
  | false => exact I.tuple_inj h h'
theorem sq_lt {X : Cx} {pins : List (Addr × Obj)} {σ : St} {H : Hp} {s : Shared} {b : Bool} {a : Addr} {xs : List V} (I : Inv X pins σ H s) (h : Sq b X.K H a xs) : a < s.heap.objs.size := by
  obtain ⟨its, r, p, z⟩ := sq_is I h
  cases b with
  | true => obtain ⟨o, e, _⟩ := (show s.heap.IsList a its.toArray from p); exact Heap.lt_size e
  | false => obtain ⟨o, e, _⟩ := (show s.heap.IsTuple a its.toArray from p); exact Heap.lt_size e

/-! ### zip of two of them, walked into a pair of names -/
def Itz (b1 b2 : Bool) (K : PySem.W.Frag) (l1 l2 : Addr) : It :=
  ⟨fun i H => ∃ xs ys x y, Sq b1 K H l1 xs ∧ Sq b2 K H l2 ys ∧ xs[i]? = some x ∧ ys[i]? = some y,
   fun i H v H' => ∃ p x y, H p = none ∧ v = .ref p ∧ H' = upd H p (.tup [x, y]) ∧ ∀ xs ys, Sq b1 K H l1 xs → Sq b2 K H l2 ys → xs[i]? = some x ∧ ys[i]? = some y,
   fun i H => ∃ xs ys, Sq b1 K H l1 xs ∧ Sq b2 K H l2 ys ∧ (xs.length ≤ i ∨ ys.length ≤ i)⟩
theorem seqIt_data {b : Bool} {h : Heap} {it l : Addr} {i : Nat} (x : SeqIt b h it l i) : ∃ o, h.get? it = some o ∧ ∀ v, o.data ≠ .cell v := by
  obtain ⟨o, vs, e, d⟩ := x.obj
  exact ⟨o, e, fun v z => by rw [d] at z; cases z⟩
theorem turn_zip {P : Program} {w : World} {K : PySem.W.Frag} {es : List Expr} {x1 : Nat} {pos : Pos} {b1 b2 : Bool} {z TI TO i1 i2 l1 l2 : Addr} (D : ZipApart z TI TO i1 i2 l1 l2) :
    Turn P w K (.Tuple es x1 pos) (Itz b1 b2 K l1 l2) [z, TI, TO, i1, i2] z (fun i h => IsZip h z TI TO .none ∧ IsPair h TI (.ref i1) (.ref i2) ∧ (∃ a b, IsPair h TO a b) ∧ SeqIt b1 h i1 l1 i ∧ SeqIt b2 h i2 l2 i) where
  mem := by simp
  obj := fun i h ⟨a1, a2, ⟨a, b, a3⟩, a4, a5⟩ c hc => by
    simp only [List.mem_cons, List.mem_nil_iff, or_false] at hc
    rcases hc with rfl | rfl | rfl | rfl | rfl
    · exact ⟨_, a1, fun v z => by cases z⟩
    · exact ⟨_, a2, fun v z => by cases z⟩
    · exact ⟨_, a3, fun v z => by cases z⟩
    · exact seqIt_data a4
    · exact seqIt_data a5
  keep := fun i h h' ⟨a1, a2, ⟨a, b, a3⟩, a4, a5⟩ k => ⟨k z (by simp) _ a1, k TI (by simp) _ a2, ⟨a, b, k TO (by simp) _ a3⟩, a4.at fun o e => k i1 (by simp) o e, a5.at fun o e => k i2 (by simp) o e⟩
  item := by
    intro X hP hw hK hc i pins s σ H E I hf ⟨a1, a2, ⟨a, b, a3⟩, a4, a5⟩ hg
    subst hP hw hK
    obtain ⟨xs, ys, x, y, q1, q2, hx, hy⟩ := hg
    obtain ⟨vs1, r1, m1, _⟩ := sq_is I q1
    obtain ⟨vs2, r2, m2, _⟩ := sq_is I q2
    obtain ⟨u, hu, ru⟩ := r1.get hx
    obtain ⟨v, hv, rv⟩ := r2.get hy
    refine zip_item D a1 a2 a3 a4 a5 m1 m2 (x := u) (y := v) (by simpa using hu) (by simpa using hv) fun h' c1 c2 c3 c4 c5 kk => ?_
    have hp : H s.heap.objs.size = none := I.hok.fresh (Nat.le_refl _)
    have lts : ∀ c ∈ [z, TI, TO, i1, i2], c < s.heap.objs.size := fun c hc => by
      simp only [List.mem_cons, List.mem_nil_iff, or_false] at hc
      rcases hc with rfl | rfl | rfl | rfl | rfl
      · exact Heap.lt_size a1
      · exact Heap.lt_size a2
      · exact Heap.lt_size a3
      · obtain ⟨o, e, _⟩ := seqIt_data a4; exact Heap.lt_size e
      · obtain ⟨o, e, _⟩ := seqIt_data a5; exact Heap.lt_size e
    refine ⟨_, rfl, wpAny_letOwnedTupleGo_zip c1 fun h'' d1 sb => ?_⟩
    have sz : ∀ c ∈ [z, TI, TO, i1, i2], c ≠ s.heap.objs.size := fun c hc => Nat.ne_of_lt (lts c hc)
    have k2 : ∀ c o, c ∉ [z, TO, i1, i2] → s.heap.get? c = some o → h''.get? c = some o := fun c o hc e => by
      simp only [List.mem_cons, List.mem_nil_iff, or_false, not_or] at hc
      exact (sb.2 c hc.1).trans (kk c o hc.1 hc.2.1 hc.2.2.1 hc.2.2.2 e)
    have fz : ∀ c ∈ [z, TO, i1, i2], FpOk X pins H c := fun c hc => hf c (by
      simp only [List.mem_cons, List.mem_nil_iff, or_false] at hc ⊢
      rcases hc with rfl | rfl | rfl | rfl <;> simp)
    have I1 : Inv X pins σ H { s with heap := h'' } := Inv.turnedL (t' := s.toks) I k2 fz
    have pT : IsPair h'' s.heap.objs.size u v := (sb.2 _ (Ne.symm (sz z (by simp)))).trans c5
    have fT : FpOk X pins H s.heap.objs.size := I.fpOk (Nat.le_refl _) hp
    have I2 : Inv X pins σ (upd H s.heap.objs.size (.tup [x, y])) { s with heap := h'' } := Inv.adopt I1 hp I.sz fT.2.1 fT.2.2.2.2.1 fT.2.2.2.2.2 ⟨by show 2 ≤ sizeLine; decide, [u, v], .cons ru (.cons rv .nil), ⟨_, pT, rfl, _, rfl⟩⟩
    refine ⟨.ref s.heap.objs.size, _, I2, rfl, ⟨_, x, y, hp, rfl, rfl, fun xs' ys' p1 p2 => ⟨by rw [sq_inj I p1 q1]; exact hx, by rw [sq_inj I p2 q2]; exact hy⟩⟩, ⟨d1, (sb.2 _ D.TIz).trans (kk _ _ D.TIz D.TITO D.TIi1 D.TIi2 a2), ⟨u, v, (sb.2 _ D.TOz).trans c2⟩,
      c3.at fun o e => (sb.2 _ D.i1z).trans e, c4.at fun o e => (sb.2 _ D.i2z).trans e⟩, fun c hc => ?_⟩
    rw [upd_ne (sz c hc)]
    exact (hf c hc).1
  done := by
    intro X hP hw hK hc i pins s σ H E I hf ⟨a1, a2, ⟨a, b, a3⟩, a4, a5⟩ hg
    subst hP hw hK
    obtain ⟨xs, ys, q1, q2, hend⟩ := hg
    obtain ⟨vs1, r1, m1, _⟩ := sq_is I q1
    obtain ⟨vs2, r2, m2, _⟩ := sq_is I q2
    have l1' := r1.length
    have l2' := r2.length
    refine zip_end (I.ok.hd hc) D a1 a2 a3 a4 a5 m1 m2 (by rcases hend with q | q; exact .inl (by simp; omega); exact .inr (by simp; omega)) fun h' kk => ⟨rfl, ?_⟩
    refine Inv.turnedL (t' := s.toks) (ch := [z, TO, i1, i2]) I (fun c o hc e => ?_) fun c hc => hf c (by
      simp only [List.mem_cons, List.mem_nil_iff, or_false] at hc ⊢
      rcases hc with rfl | rfl | rfl | rfl <;> simp)
    simp only [List.mem_cons, List.mem_nil_iff, or_false, not_or] at hc
    exact kk c o hc.1 hc.2.1 hc.2.2.1 hc.2.2.2 e
  self := fun _ _ _ _ _ st h => wpAny_pyIter_zip st.1 h
section
variable {X : Cx} {pos : Pos}
/-- the two sources of zip(a, b), evaluated -/
def iZip (b1 b2 : Bool) (K : PySem.W.Frag) (ta : TA) : TI := fun σ H R => ta σ H fun vs H1 => ∃ l1 l2 xs ys, vs = [.ref l1, .ref l2] ∧ Sq b1 K H1 l1 xs ∧ Sq b2 K H1 l2 ys ∧ R (Itz b1 b2 K l1 l2) H1
theorem pi_zip {b1 b2 : Bool} {a b : Expr} {ta : TA} {p : Pos} {es : List Expr} {x1 : Nat} {tpos : Pos} (hg : Gl X "zip") (hm : X.mg "zip" = none) (ha : PA X [a, b] ta)
    (hs : starEach [a, b] X.env = [(false, eval a X.env), (false, eval b X.env)] := by rfl) (hs2 : starEach [b] X.env = [(false, eval b X.env)] := by rfl) : PI X (.Tuple es x1 tpos) (.Call (.Name "zip" p) [a, b] [] pos) (iZip b1 b2 X.K ta) := by
  intro pins s σ H R I h
  refine Call_ (ld_blt I hg hm boot_zip (PyProof.Rows.callWith_type1 (thn (ha pos pins s σ H _ I h) fun us s1 ⟨vs, H1, I1, r1, q1⟩ => ?_) (by rw [hs, hs2]) (by rw [hs2]; rfl)))
  obtain ⟨l1, l2, xs, ys, e, q1, q2, q⟩ := q1
  subst e
  cases r1 with
  | cons r rr =>
    cases rr with
    | cons r' rr =>
      cases rr
      cases r
      cases r'
      obtain ⟨vs1, _, m1, _⟩ := sq_is I1 q1
      obtain ⟨vs2, _, m2, _⟩ := sq_is I1 q2
      have n1 := sq_lt I1 q1
      have n2 := sq_lt I1 q2
      refine zip_call m1 m2 fun h' c1 c2 c3 c4 c5 kk => wpAny_pyIter_zip c1 ?_
      refine ⟨_, _, _, _, H1, rfl, I1.kept (t' := s1.toks) kk, turn_zip (D := zipApart_new n1 n2), ⟨c1, c2, ⟨_, _, c3⟩, c4, c5⟩, fun c hc => ?_, q⟩
      have hc' : s1.heap.objs.size ≤ c := by
        simp only [List.mem_cons, List.mem_nil_iff, or_false] at hc
        rcases hc with rfl | rfl | rfl | rfl | rfl <;> omega
      exact I1.fpOk hc' (I1.hok.fresh hc')

/-! ### enumerate, walked into a pair of names -/
def Ite (b : Bool) (K : PySem.W.Frag) (l : Addr) : It :=
  ⟨fun i H => ∃ xs x, Sq b K H l xs ∧ xs[i]? = some x,
   fun i H v H' => ∃ p x, H p = none ∧ v = .ref p ∧ H' = upd H p (.tup [.int i, x]) ∧ ∀ xs, Sq b K H l xs → xs[i]? = some x,
   fun i H => ∃ xs, Sq b K H l xs ∧ xs.length ≤ i⟩
end
theorem turn_enum {P : Program} {w : World} {K : PySem.W.Frag} {es : List Expr} {x1 : Nat} {pos : Pos} {b : Bool} {e it l : Addr} (n1 : e ≠ it) (n2 : l ≠ it) (n3 : e ≠ l) :
    Turn P w K (.Tuple es x1 pos) (Ite b K l) [e, it] e (fun i h => (∃ old, IsEnum h e it i old) ∧ SeqIt b h it l i) where
  mem := by simp
  obj := fun i h ⟨⟨old, a1⟩, a2⟩ c hc => by
    simp only [List.mem_cons, List.mem_nil_iff, or_false] at hc
    rcases hc with rfl | rfl
    · exact ⟨_, a1, fun v z => by cases z⟩
    · exact seqIt_data a2
  keep := fun i h h' ⟨⟨old, a1⟩, a2⟩ k => ⟨⟨old, k e (by simp) _ a1⟩, a2.at fun o q => k it (by simp) o q⟩
  item := by
    intro X hP hw hK hc i pins s σ H E I hf ⟨⟨old, a1⟩, a2⟩ hg
    subst hP hw hK
    obtain ⟨xs, x, q1, hx⟩ := hg
    obtain ⟨vs, r1, m1, _⟩ := sq_is I q1
    obtain ⟨u, hu, ru⟩ := r1.get hx
    have hil : i < vs.toArray.size := by
      have := (List.getElem?_eq_some_iff.mp hu).1
      simpa using this
    have hh : X.A.in1.handled = none := I.ok.hd hc
    refine wpAny_pyNext_enum_itemD (n := vs.toArray.size) (draws_seq (b := b) hh it l n2 vs.toArray) a1 ⟨a2, m1⟩ hil n1 (by simp; exact ⟨n1, n3⟩) fun y h' tk hy c1 c2 c3 c4 kk => ?_
    have ey : y = u := by
      have : vs[i]? = some y := by simpa using hy
      rw [hu] at this
      exact (Option.some.inj this).symm
    subst ey
    have hp : H s.heap.objs.size = none := I.hok.fresh (Nat.le_refl _)
    have eS : e ≠ s.heap.objs.size := Nat.ne_of_lt (Heap.lt_size a1)
    have iS : it ≠ s.heap.objs.size := by
      obtain ⟨o, q, _⟩ := seqIt_data a2
      exact Nat.ne_of_lt (Heap.lt_size q)
    refine ⟨_, rfl, wpAny_letOwnedTupleGo_enum c1 fun h'' d1 sb => ?_⟩
    have k2 : ∀ c o, c ∉ [e, it] → s.heap.get? c = some o → h''.get? c = some o := fun c o hc q => by
      simp only [List.mem_cons, List.mem_nil_iff, or_false, not_or] at hc
      exact (sb.2 c hc.1).trans (kk c o hc.1 hc.2 q)
    have I1 : Inv X pins σ H { s with heap := h'', toks := tk + 1 } := Inv.turnedL I k2 hf
    have pT : h''.get? s.heap.objs.size = some { cls := .type "tuple", data := .seq #[.int i tk, y] } := (sb.2 _ (Ne.symm eS)).trans c3
    have fT : FpOk X pins H s.heap.objs.size := I.fpOk (Nat.le_refl _) hp
    have I2 : Inv X pins σ (upd H s.heap.objs.size (.tup [.int i, x])) { s with heap := h'', toks := tk + 1 } := Inv.adopt I1 hp I.sz fT.2.1 fT.2.2.2.2.1 fT.2.2.2.2.2
      ⟨by show 2 ≤ sizeLine; decide, [.int i tk, y], .cons ⟨_, rfl⟩ (.cons ru .nil), ⟨_, pT, rfl, _, rfl⟩⟩
    refine ⟨.ref s.heap.objs.size, _, I2, rfl, ⟨_, x, hp, rfl, rfl, fun xs' p1 => by rw [sq_inj I p1 q1]; exact hx⟩, ⟨⟨_, by simpa using d1⟩, c2.1.at fun o q => (sb.2 _ (Ne.symm n1)).trans q⟩, fun c hc => ?_⟩
    simp only [List.mem_cons, List.mem_nil_iff, or_false] at hc
    rcases hc with rfl | rfl
    · rw [upd_ne eS]; exact (hf _ (by simp)).1
    · rw [upd_ne iS]; exact (hf _ (by simp)).1
  done := by
    intro X hP hw hK hc i pins s σ H E I hf ⟨⟨old, a1⟩, a2⟩ hg
    subst hP hw hK
    obtain ⟨xs, q1, hend⟩ := hg
    obtain ⟨vs, r1, m1, _⟩ := sq_is I q1
    have hl := r1.length
    have hT : s.TypeIs (.ref e) "enumerate" := ⟨_, a1, rfl⟩
    unfold pyNext
    refine wpAny_bind (wpAny_attempt (wpAny_callSpecial?_slot (name := Str.ofString "__next__") hT F.slot_enumerate_next (wpAny_call_entry F.slot_enumerate_next hT F.entry_enumerate_next ?_ (F.args_enumerate_next_1 _))))
    show wpAny _ _ (field (.ref e) 2 >>= _) _ _ s
    refine wpAny_bind (wpAny_field a1 rfl (x := .ref it) rfl (wpAny_bind (next_end (show X.A.in1.handled = none from I.ok.hd hc) a2 m1 (by simp; omega) fun h' y hk ⟨o, ho, hoc⟩ => ?_)))
    refine wpAny_bind (wpAny_isInstance (T := "StopIteration") (b := true) ⟨o, ho, hoc⟩ isSubtype_stop (wpAny_pure ⟨rfl, ?_⟩))
    refine I.turned (t' := s.toks) (it := it) (fun c q hc z => hk c q hc z) (hf it (by simp)).1 (hf it (by simp)).2.1 (hf it (by simp)).2.2.2.1 (hf it (by simp)).2.2.2.2.1 (hf it (by simp)).2.2.2.2.2
  self := fun _ _ _ _ _ st h => let ⟨_, a1⟩ := st.1; wpAny_pyIter_enum a1 h
section
variable {X : Cx} {pos : Pos}
def iEnum (b : Bool) (K : PySem.W.Frag) (ta : TA) : TI := fun σ H R => ta σ H fun vs H1 => ∃ l xs, vs = [.ref l] ∧ Sq b K H1 l xs ∧ R (Ite b K l) H1
theorem pi_enum {b : Bool} {a : Expr} {ta : TA} {p : Pos} {es : List Expr} {x1 : Nat} {tpos : Pos} (hg : Gl X "enumerate") (hm : X.mg "enumerate" = none) (ha : PA X [a] ta)
    (hs : starEach [a] X.env = [(false, eval a X.env)] := by rfl) : PI X (.Tuple es x1 tpos) (.Call (.Name "enumerate" p) [a] [] pos) (iEnum b X.K ta) := by
  intro pins s σ H R I h
  refine Call_ (ld_blt I hg hm boot_enumerate (PyProof.Rows.callWith_type1 (thn (ha pos pins s σ H _ I h) fun us s1 ⟨vs, H1, I1, r1, q1⟩ => ?_) hs rfl))
  obtain ⟨l, xs, e, q1, q⟩ := q1
  subst e
  cases r1 with
  | cons r rr =>
    cases rr
    cases r
    obtain ⟨vs1, _, m1, _⟩ := sq_is I1 q1
    have n1 := sq_lt I1 q1
    refine enum_call m1 fun h' c1 c2 kk => wpAny_pyIter_enum c1 ?_
    refine ⟨_, _, _, _, H1, rfl, I1.kept (t' := s1.toks) kk, turn_enum (Nat.succ_ne_self _) (Nat.ne_of_lt n1) (Ne.symm (Nat.ne_of_lt (Nat.lt_succ_of_lt n1))), ⟨⟨_, c1⟩, c2⟩, fun c hc => ?_, q⟩
    have hc' : s1.heap.objs.size ≤ c := by
      simp only [List.mem_cons, List.mem_nil_iff, or_false] at hc
      rcases hc with rfl | rfl <;> omega
    exact I1.fpOk hc' (I1.hok.fresh hc')
end
end L2

namespace L2
open PySem PySem.Spec PyProof.Rows PySem.SeqAt L3

/-! ### isinstance -/
/-- a class as a value -/
def clsV : V → Option Value
  | .ty n => some (.type n)
  | .ref a => some (.ref a)
  | _ => none
theorem clsV_rel {c : V} {cv u : Value} (h : clsV c = some cv) (r : RelV c u) : u = cv := by
  cases c with
  | ty n => cases h; exact r
  | ref a => cases h; exact r
  | _ => cases h
def rIsi (K : PySem.W.Frag) : List V → Hp → VK → Prop := fun xs H Q => ∃ x c t cv b, xs = [x, c] ∧ TyOf K H x t ∧ clsV c = some cv ∧ PySem.W.kitOne K t cv = some b ∧ Q (.bl b) H
section
variable {X : Cx}
theorem call_isi : CallR X (.builtin "isinstance") (rIsi X.K) := by
  intro pins s σ H xs us Q I r h
  obtain ⟨x, c, t, cv, b, e, ty, hc, hk, q⟩ := h
  subst e
  cases r with
  | cons r1 r2 =>
    cases r2 with
    | cons r2 r3 =>
      cases r3
      cases clsV_rel hc r2
      exact isinst_ok I r1 ty hk fun tk => ⟨.bl b, H, I.tok tk, rfl, q⟩

/-! ### all, any of a list of truths -/
theorem range_all (bs : List Bool) : (List.range bs.length).all (fun i => bs.getD i false) = bs.all id := by
  induction bs with
  | nil => rfl
  | cons b r ih =>
    rw [List.length_cons, List.range_succ_eq_map, List.all_cons, List.all_map, List.all_cons]
    simp only [List.getD_cons_zero, id]
    congr 1
theorem range_any (bs : List Bool) : (List.range bs.length).any (fun i => bs.getD i false) = bs.any id := by
  induction bs with
  | nil => rfl
  | cons b r ih =>
    rw [List.length_cons, List.range_succ_eq_map, List.any_cons, List.any_map, List.any_cons]
    simp only [List.getD_cons_zero, id]
    congr 1
theorem bools_are : ∀ {bs : List Bool} {us : List Value}, Vals (bs.map V.bl) us → us = bs.map Value.bool
  | [], _, r => by cases r; rfl
  | b :: bs, _, r => by
    cases r with
    | cons r1 r2 =>
      cases r1
      rw [List.map_cons, bools_are r2]
theorem truth_bools {A : Around} (bs : List Bool) : TruthOf X.prog X.w A (fun i v => (bs.map Value.bool).toArray[i]? = some v) (fun i => bs.getD i false) := by
  intro i v s Q E h q
  have h' : (bs.map Value.bool)[i]? = some v := by simpa using h
  rw [List.getElem?_map] at h'
  cases e : bs[i]? with
  | none => rw [e] at h'; cases h'
  | some b =>
    rw [e] at h'
    have hv : v = .bool b := (Option.some.inj h').symm
    subst hv
    have hq : bs.getD i false = b := by rw [List.getD_eq_getElem?_getD, e]; rfl
    have q' : Q (bs.getD i false) s := q
    rw [hq] at q'
    exact wpAny_truthy_bool q'
def rAll (K : PySem.W.Frag) : List V → Hp → VK → Prop := fun xs H Q => ∃ (p : Addr) (bs : List Bool), xs = [.ref p] ∧ SqL K H p (bs.map V.bl) ∧ Q (.bl (bs.all id)) H
def rAny (K : PySem.W.Frag) : List V → Hp → VK → Prop := fun xs H Q => ∃ (p : Addr) (bs : List Bool), xs = [.ref p] ∧ SqL K H p (bs.map V.bl) ∧ Q (.bl (bs.any id)) H
theorem call_all (hc : X.calm = true) : CallR X (.builtin "all") (rAll X.K) := by
  intro pins s σ H xs us Q I r h
  obtain ⟨p, bs, e, hq, q⟩ := h
  subst e
  obtain ⟨u, rfl, rx⟩ := vals1 r
  cases rx
  obtain ⟨its, rv, pl, hz⟩ := I.list hq
  have ei := bools_are rv
  subst ei
  have hne : p ≠ s.heap.objs.size := by
    obtain ⟨o, e, _⟩ := pl.isList
    exact Nat.ne_of_lt (Heap.lt_size e)
  refine call_all_walk (wpAny_pyIter_list pl.isList ⟨_, _, _, _, _, _, _, rfl, Walks.list (show X.A.in1.handled = none from I.ok.hd hc) _ p hne (bs.map Value.bool).toArray, ⟨⟨_, Heap.get?_push_size _ rfl, rfl, rfl⟩, pl.isList.push _⟩, truth_bools bs, fun h' tk kk => ?_⟩)
  have e2 : (List.range (bs.map Value.bool).toArray.size).all (fun i => bs.getD i false) = bs.all id := by
    rw [List.size_toArray, List.length_map]
    exact range_all bs
  rw [e2]
  refine ⟨.bl _, H, I.kept fun b o e => kk b o (fun z => ?_) (Heap.get?_push_of_some _ e), rfl, q⟩
  have z' : b = s.heap.objs.size := by simpa using z
  rw [z'] at e
  exact absurd (Heap.lt_size e) (Nat.lt_irrefl _)
theorem call_any (hc : X.calm = true) : CallR X (.builtin "any") (rAny X.K) := by
  intro pins s σ H xs us Q I r h
  obtain ⟨p, bs, e, hq, q⟩ := h
  subst e
  obtain ⟨u, rfl, rx⟩ := vals1 r
  cases rx
  obtain ⟨its, rv, pl, hz⟩ := I.list hq
  have ei := bools_are rv
  subst ei
  have hne : p ≠ s.heap.objs.size := by
    obtain ⟨o, e, _⟩ := pl.isList
    exact Nat.ne_of_lt (Heap.lt_size e)
  refine call_any_walk (wpAny_pyIter_list pl.isList ⟨_, _, _, _, _, _, _, rfl, Walks.list (show X.A.in1.handled = none from I.ok.hd hc) _ p hne (bs.map Value.bool).toArray, ⟨⟨_, Heap.get?_push_size _ rfl, rfl, rfl⟩, pl.isList.push _⟩, truth_bools bs, fun h' tk kk => ?_⟩)
  have e2 : (List.range (bs.map Value.bool).toArray.size).any (fun i => bs.getD i false) = bs.any id := by
    rw [List.size_toArray, List.length_map]
    exact range_any bs
  rw [e2]
  refine ⟨.bl _, H, I.kept fun b o e => kk b o (fun z => ?_) (Heap.get?_push_of_some _ e), rfl, q⟩
  have z' : b = s.heap.objs.size := by simpa using z
  rw [z'] at e
  exact absurd (Heap.lt_size e) (Nat.lt_irrefl _)

/-! ### data compared, to any depth -/
mutual
inductive DatV (K : PySem.W.Frag) (H : Hp) : V → PyData → Prop
  | non : DatV K H .non .none
  | bl (b : Bool) : DatV K H (.bl b) (.bool b)
  | int (i : Int) : DatV K H (.int i) (.int i)
  | str (x : Str) : DatV K H (.str x) (.str x)
  | lst {a : Addr} {xs : List V} {ds : List PyData} : SqL K H a xs → DatVs K H xs ds → DatV K H (.ref a) (.list ds)
  | tup {a : Addr} {xs : List V} {ds : List PyData} : SqT K H a xs → DatVs K H xs ds → DatV K H (.ref a) (.tuple ds)
inductive DatVs (K : PySem.W.Frag) (H : Hp) : List V → List PyData → Prop
  | nil : DatVs K H [] []
  | cons {x : V} {d : PyData} {xs : List V} {ds : List PyData} : DatV K H x d → DatVs K H xs ds → DatVs K H (x :: xs) (d :: ds)
end
variable {pins : List (Addr × Obj)} {σ : St} {H : Hp} {s : Shared}
mutual
theorem DatV.reads (I : Inv X pins σ H s) : ∀ {v : V} {d : PyData} {u : Value}, DatV X.K H v d → RelV v u → ∃ as, Reads s.heap u d as
  | _, _, _, .non, r => by cases r; exact ⟨_, .none⟩
  | _, _, _, .bl b, r => by cases r; exact ⟨_, .bool b⟩
  | _, _, _, .int i, r => by obtain ⟨t, e⟩ := r; subst e; exact ⟨_, .int i t⟩
  | _, _, _, .str x, r => by obtain ⟨t, e⟩ := r; subst e; exact ⟨_, .str x t⟩
  | _, _, _, .lst hq hs, r => by
    cases r
    obtain ⟨its, rv, pl, hz⟩ := I.list hq
    obtain ⟨as, h⟩ := DatVs.reads I hs rv
    obtain ⟨o, ho, hc, n, hd⟩ := pl.isList
    exact ⟨_, .list ho hc hd (by simpa using h)⟩
  | _, _, _, .tup hq hs, r => by
    cases r
    obtain ⟨its, rv, pl, hz⟩ := I.tuple hq
    obtain ⟨as, h⟩ := DatVs.reads I hs rv
    obtain ⟨o, ho, hc, n, hd⟩ := pl
    exact ⟨_, .tuple ho hc hd (by simpa using h)⟩
theorem DatVs.reads (I : Inv X pins σ H s) : ∀ {vs : List V} {ds : List PyData} {us : List Value}, DatVs X.K H vs ds → Vals vs us → ∃ as, ReadsAll s.heap us ds as
  | _, _, _, .nil, r => by cases r; exact ⟨_, .nil⟩
  | _, _, _, .cons h t, r => by
    cases r with
    | cons r1 r2 =>
      obtain ⟨as, q1⟩ := DatV.reads I h r1
      obtain ⟨bs, q2⟩ := DatVs.reads I t r2
      exact ⟨_, .cons q1 q2⟩
end
def rEqD (K : PySem.W.Frag) (neg : Bool) : R2 := fun x y H Q => ∃ d e, DatV K H x d ∧ DatV K H y e ∧ shaped d = true ∧ shaped e = true ∧ noMix d e = true ∧ Q (.bl (if neg = true then !same d e else same d e)) H
theorem op_eqD (hu : X.A.units + 64 < cLine) : OpR X (compareOp .Eq) (rEqD X.K false) := by
  intro pins s σ H x y v u Q I rx ry h
  obtain ⟨d, e, h1, h2, h3, h4, h5, q⟩ := h
  obtain ⟨as, q1⟩ := h1.reads I rx
  obtain ⟨bs, q2⟩ := h2.reads I ry
  exact eq_dataH_same q1 q2 h3 h4 hu h5 ⟨.bl _, H, I, rfl, q⟩
theorem op_neD (hu : X.A.units + 64 < cLine) : OpR X (compareOp .NotEq) (rEqD X.K true) := by
  intro pins s σ H x y v u Q I rx ry h
  obtain ⟨d, e, h1, h2, h3, h4, h5, q⟩ := h
  obtain ⟨as, q1⟩ := h1.reads I rx
  obtain ⟨bs, q2⟩ := h2.reads I ry
  exact ne_dataH_same q1 q2 h3 h4 hu h5 ⟨.bl _, H, I, rfl, q⟩
theorem datVs_ints {K : PySem.W.Frag} {H : Hp} : ∀ ns : List Int, DatVs K H (ns.map V.int) (ns.map PyData.int)
  | [] => .nil
  | n :: r => .cons (.int n) (datVs_ints r)
theorem dat_ints {K : PySem.W.Frag} {H : Hp} {a : Addr} {ns : List Int} (h : SqL K H a (ns.map V.int)) : DatV K H (.ref a) (.list (ns.map PyData.int)) := .lst h (datVs_ints ns)
end

/-! ### Base.m(self, ..): a def of a class, called through the class -/
structure ClsFn (K : PySem.W.Frag) (C : Addr) (m : Str) (f : Addr) : Prop where
  sp : PySem.W.specialIn K (.ref C) "__getattribute__" = some (some (.builtin "type.__getattribute__"))
  rd : PySem.W.readsIn K C (.type "type") = true
  fc : PySem.W.findCls K (.ref C) (.type "type") m = some (.val (.ref f))
  kp : PySem.W.keepIn K (.ref f) = true
section
variable {X : Cx} {CX : CXT} {k : Nat} {f C : Addr} {fd : FuncData} {ps : List Str} {sp : Sp} {dvs : List V} {ds : List Value} {E : XK} {x m : Str} {p pos apos : Pos} {e o : Expr} {es : List Expr} {ta : TE} {t : TA}
theorem pe_clsCall {pl : Sem Bool} (c : ClsFn X.K C m f) (F : FnOk X.prog X.w X.K X.mg X.base CX k f fd ps sp) (hr : Room k X.A) (hg : Gl X x) (hm : X.mg x = some (.ref C)) (hb : Binds X.K fd ps ds) (hd : Vals dvs ds) (hx : Passes CX X E) (ha : PA X (e :: es) t)
    (hdb : (x == ("__debug__" : Str)) = false := by decide) (hst : starEach (e :: es) X.env = (false, eval e X.env) :: starEach es X.env := by rfl) (hpl : (backTo pos (starEach es X.env)).any (·.1) = false := by rfl)
    (ht : eval (.Call (.Attribute (.Name x p) m apos) (e :: es) [] pos) X.env = (do
      let ov ← eval (.Name x p) X.env
      standAt apos.atName
      let (f, first) ← holding [ov] (getMethod ov m pl)
      callWith pos f first (backTo pos (starEach (e :: es) X.env)) (backToKw pos (keywordEach [] X.env))) := by rfl) :
    PE X (.Call (.Attribute (.Name x p) m apos) (e :: es) [] pos) (tCall sp dvs E t) := by
  intro pins s σ H Q I h
  refine PySem.W.methodCall_KW (pl := pl) (ld_glob I hg hm ?_ hdb) ht
  refine PySem.W.method_cls I.kIn c.sp (PySem.W.cls_value I.kIn c.rd c.fc rfl ?_)
  have I1 := I.tok (s.toks + 1)
  refine PySem.W.callWith_K (first := []) (h₀ := X.base) I.ok.mod.kin c.kp (thn (ha pos pins _ σ H _ I1 h) fun us s2 ⟨vs, H2, I2, r, q2⟩ => ⟨I2.kIn, ?_⟩) hst hpl
  exact run_fn F hr hb hd hx I2 r q2

/-- o.m(), whatever class o is of: the method is chosen by the object. (The reading names no context: a comprehension's element may stand so.) -/
def tMethD (P : Program) (w : World) (K : PySem.W.Frag) (mg : Str → Option Value) (base : Heap) (CX : CXT) (k : Nat) (m : Str) (E : XK) (ta : TE) : TE := fun σ H Q => ta σ H fun x H1 => ∃ a C dx fs f fd ps sp, x = .ref a ∧ H1 a = some (.ins C dx fs) ∧ fs.lookup m = none ∧ Cls K C ∧ Meth K C m f ∧
  FnOk P w K mg base CX k f fd ps sp ∧ Binds K fd ps [] ∧ sp [.ref a] H1 Q E
theorem pe_methD {P : Program} {w : World} {K : PySem.W.Frag} {mg : Str → Option Value} {base : Heap} {pl : Sem Bool} (he : PE X o ta) (hr : Room k X.A) (hx : Passes CX X E) (hP : X.prog = P := by rfl) (hw : X.w = w := by rfl) (hK : X.K = K := by rfl) (hmg : X.mg = mg := by rfl) (hbs : X.base = base := by rfl)
    (ht : eval (.Call (.Attribute o m apos) [] [] pos) X.env = (do
      let ov ← eval o X.env
      standAt apos.atName
      let (f, first) ← holding [ov] (getMethod ov m pl)
      callWith pos f first (backTo pos (starEach [] X.env)) (backToKw pos (keywordEach [] X.env))) := by rfl) :
    PE X (.Call (.Attribute o m apos) [] [] pos) (tMethD P w K mg base CX k m E ta) := by
  subst hP hw hK hmg hbs
  intro pins s σ H Q I h
  refine PySem.W.methodCall_KW (pl := pl) (thn (he pins s σ H _ I h) fun u s1 ⟨x, H1, I1, rx, a, C, dx, fs, f, fd, ps, sp, ex, ea, l, c, hm, F, hb, q⟩ => ?_) ht
  subst ex
  obtain rfl : u = Value.ref a := rx
  refine getmeth_ok I1 ea c hm l ?_
  exact PySem.W.callWith_K0 (first := [.ref a]) I1.kIn hm.kp (run_fn (us := [.ref a]) (vs := [.ref a]) (dvs := []) (ds := []) F hr hb .nil hx I1 (.cons rfl .nil) q)
end

/-! ### ifs -/
theorem iteD {c A B : Prop} [Decidable c] (h1 : c → A) (h2 : ¬ c → B) : if decide c = true then A else B := by
  by_cases h : c
  · rw [decide_eq_true h]; exact iteT (h1 h)
  · rw [decide_eq_false h]; exact iteF (h2 h)
theorem iteND {c A B : Prop} [Decidable c] (h1 : ¬ c → A) (h2 : c → B) : if (!decide c) = true then A else B := by
  by_cases h : c
  · rw [decide_eq_true h]; exact iteF (h2 h)
  · rw [decide_eq_false h]; exact iteT (h1 h)
theorem iteB {b : Bool} {A B : Prop} (h1 : b = true → A) (h2 : b = false → B) : if b = true then A else B := by
  cases b with
  | true => exact iteT (h1 rfl)
  | false => exact iteF (h2 rfl)
theorem iteNB {b : Bool} {A B : Prop} (h1 : b = false → A) (h2 : b = true → B) : if (!b) = true then A else B := by
  cases b with
  | true => exact iteF (h2 rfl)
  | false => exact iteT (h1 rfl)
/-! ### a block's scope, by looking -/
def scOk (sc out : Scope) (XN N : List Str) (idx : List Nat) : Bool :=
  decide (sc.kind = .function) && (sc.names.all (fun y => decide (y.2 ≠ .cell)) && (sc.names.all (fun y => decide (y.2 ≠ .local) || decide (sc.names.lookup y.1 = some .local)) &&
    (sc.names.all (fun y => decide (y.2 ≠ .free) || decide (out.names.lookup y.1 = some .cell)) && (decide (idx.length ≤ N.length) && (idx.zip N).all (fun p => decide (XN[p.1]? = some p.2) && decide (sc.names.lookup p.2 = some .free))))))
theorem ScC.of {X : Cx} {sc : Scope} {N : List Str} {idx : List Nat} (h : scOk sc X.env.scope X.N N idx = true) : ScC X sc N idx := by
  unfold scOk at h
  simp only [Bool.and_eq_true, decide_eq_true_eq, List.all_eq_true, Bool.or_eq_true] at h
  obtain ⟨h1, h2, h3, h4, h5, h6⟩ := h
  refine ⟨h1, h2, fun y hy e => ?_, fun y hy e => ?_, h5, fun k i x a b => ?_⟩
  · rcases h3 y hy with z | z
    · exact absurd e z
    · exact z
  · rcases h4 y hy with z | z
    · exact absurd e z
    · exact z
  · have hm : (i, x) ∈ idx.zip N := by
      have : (idx.zip N)[k]? = some (i, x) := by rw [List.getElem?_zip_eq_some]; exact ⟨a, b⟩
      exact List.mem_of_getElem? this
    exact h6 (i, x) hm
end L2

namespace TL
open PySem PySem.Spec PyProof.Rows L2 L3

/-! ### kinds -/
def kinds : List String := ["NoneType", "bool", "int", "str", "list", "tuple"]
def kinds2 : List String := ["int", "bool", "str", "tuple", "list"]
def isiB (T U : String) : Bool := T == U || (T == "bool" && U == "int")
theorem kit_eq (K : PySem.W.Frag) (T U : String) : PySem.W.kitOne K (.type T) (.type U) =
    (if (Value.type T == Value.type U) = true then some true else if PySem.W.kitMeta U = true then (fastBuiltinMro T).map (·.contains (.type U)) else none) := rfl
theorem kit_tab : ∀ T ∈ kinds, ∀ U ∈ kinds2, (if (Value.type T == Value.type U) = true then some true else if PySem.W.kitMeta U = true then (fastBuiltinMro T).map (·.contains (.type U)) else none) = some (isiB T U) := by decide +kernel
def tyName (H : Hp) : V → Option String
  | .non => some "NoneType"
  | .bl _ => some "bool"
  | .int _ => some "int"
  | .str _ => some "str"
  | .ref a => match H a with
    | some (.lst _) => some "list"
    | some (.tup _) => some "tuple"
    | _ => none
  | _ => none
theorem tyName_of {K : PySem.W.Frag} {H : Hp} {v : V} {T : String} (h : tyName H v = some T) : TyOf K H v (.type T) ∧ T ∈ kinds := by
  cases v with
  | non => cases h; exact ⟨.non, by decide⟩
  | bl b => cases h; exact ⟨.bl b, by decide⟩
  | int i => cases h; exact ⟨.int i, by decide⟩
  | str x => cases h; exact ⟨.str x, by decide⟩
  | ref a =>
    unfold tyName at h
    cases e : H a with
    | none => simp only [e] at h; cases h
    | some o =>
      cases o with
      | lst xs => simp only [e] at h; cases h; exact ⟨.lst e, by decide⟩
      | tup xs => simp only [e] at h; cases h; exact ⟨.tup e, by decide⟩
      | _ => simp only [e] at h; cases h
  | _ => cases h
theorem kitU {K : PySem.W.Frag} {H : Hp} {v : V} {T U : String} (h : tyName H v = some T) (hU : U ∈ kinds2) : PySem.W.kitOne K (.type T) (.type U) = some (isiB T U) := by
  rw [kit_eq]
  exact kit_tab T (tyName_of (K := K) h).2 U hU
theorem tyT {K : PySem.W.Frag} {H : Hp} {v : V} {T : String} (h : tyName H v = some T) : TyOf K H v (.type T) := (tyName_of h).1
theorem tyName_same {H H' : Hp} {v : V} {T : String} (s : Same H H') (h : tyName H v = some T) : tyName H' v = some T := by
  cases v with
  | ref a =>
    unfold tyName at h ⊢
    cases e : H a with
    | none => simp only [e] at h; cases h
    | some o => simp only [s a o e]; simp only [e] at h; exact h
  | _ => exact h
def isW : V → Bool
  | .int _ => true
  | _ => false
theorem isW_of {H : Hp} {v : V} {T : String} (h : tyName H v = some T) : (isiB T "int" && !isiB T "bool") = isW v := by
  cases v with
  | non => cases h; rfl
  | bl b => cases h; rfl
  | int i => cases h; rfl
  | str x => cases h; rfl
  | ref a =>
    unfold tyName at h
    cases e : H a with
    | none => simp only [e] at h; cases h
    | some o =>
      cases o with
      | lst xs => simp only [e] at h; cases h; rfl
      | tup xs => simp only [e] at h; cases h; rfl
      | _ => simp only [e] at h; cases h
  | _ => cases h

/-! ### steps -/
abbrev TOPi : Int := 1000000000000000000000000000000000000000000000000000000000000
def boundsM (w : Str) : Option (List Int) :=
  if w = "put" then some [4, TOPi] else if w = "add" then some [4, 4] else if w = "set" then some [12, 4] else if w = "look" then some [4, 12] else if w = "swap" then some [4, 12]
  else if w = "clear" then some [] else if w = "skip" then some [4, 121] else none
def wIn : V → Int → Bool
  | .int i, b => decide (0 ≤ i) && decide (i < b)
  | _, _ => false
/-- is the tuple of these parts a step -/
def stepOk : List V → Bool
  | .str w :: ps => match boundsM w with
    | none => false
    | some bs => decide (ps.length = bs.length) && (ps.zip bs).all fun p => wIn p.1 p.2
  | _ => false
def viewT (H : Hp) : V → Option (List V)
  | .ref a => match H a with
    | some (.tup xs) => some xs
    | _ => none
  | _ => none
def isStep (H : Hp) (v : V) : Bool := match viewT H v with
  | some xs => stepOk xs
  | none => false
theorem viewT_ref {H : Hp} {v : V} {xs : List V} (h : viewT H v = some xs) : ∃ a, v = .ref a ∧ H a = some (.tup xs) := by
  cases v with
  | ref a =>
    refine ⟨a, rfl, ?_⟩
    unfold viewT at h
    cases e : H a with
    | none => simp only [e] at h; cases h
    | some o =>
      cases o with
      | tup ys => simp only [e] at h; cases h; rfl
      | _ => simp only [e] at h; cases h
  | _ => cases h
theorem viewT_of {H : Hp} {a : Addr} {xs : List V} (h : H a = some (.tup xs)) : viewT H (.ref a) = some xs := by
  unfold viewT; simp only [h]
theorem tyName_tup {H : Hp} {a : Addr} {xs : List V} (h : H a = some (.tup xs)) : tyName H (.ref a) = some "tuple" := by
  unfold tyName; simp only [h]
theorem noView {H : Hp} {v : V} {T : String} (h : tyName H v = some T) : isiB T "tuple" = (viewT H v).isSome := by
  cases v with
  | non => cases h; rfl
  | bl b => cases h; rfl
  | int i => cases h; rfl
  | str x => cases h; rfl
  | ref a =>
    unfold tyName at h
    unfold viewT
    cases e : H a with
    | none => simp only [e] at h; cases h
    | some o =>
      cases o with
      | lst xs => simp only [e] at h ⊢; cases h; rfl
      | tup xs => simp only [e] at h ⊢; cases h; rfl
      | _ => simp only [e] at h; cases h
  | _ => cases h
theorem isiStr {H : Hp} {v : V} {T : String} (h : tyName H v = some T) : isiB T "str" = true ↔ ∃ x, v = .str x := by
  cases v with
  | str x => cases h; exact ⟨fun _ => ⟨x, rfl⟩, fun _ => rfl⟩
  | non => cases h; exact ⟨fun z => (by cases z), fun ⟨_, z⟩ => (by cases z)⟩
  | bl b => cases h; exact ⟨fun z => (by cases z), fun ⟨_, z⟩ => (by cases z)⟩
  | int i => cases h; exact ⟨fun z => (by cases z), fun ⟨_, z⟩ => (by cases z)⟩
  | ref a =>
    refine ⟨fun z => ?_, fun ⟨_, z⟩ => by cases z⟩
    unfold tyName at h
    cases e : H a with
    | none => simp only [e] at h; cases h
    | some o =>
      cases o with
      | lst xs => simp only [e] at h; cases h; cases z
      | tup xs => simp only [e] at h; cases h; cases z
      | _ => simp only [e] at h; cases h
  | _ => cases h
/-- a heap with a new object -/
theorem same_new {H H' : Hp} {p : Addr} {o : HO} (s : Same H H') (h : H' p = none) : Same H (upd H' p o) := fun b u e => by
  rw [upd_ne (ne_of_none (s b u e) h)]
  exact s b u e
theorem same_tup {K : PySem.W.Frag} {H H' : Hp} {a : Addr} {xs : List V} (s : Same H H') (h : SqT K H a xs) : SqT K H' a xs := by
  rcases h with (h | ⟨o, h⟩) | h
  · exact .inl (.inl (s _ _ h))
  · exact .inl (.inr ⟨o, s _ _ h⟩)
  · exact .inr h
end TL

namespace L2
open PySem PySem.Spec PyProof.Rows L3

/-! ### an exception in flight -/
/-- the exception's record: class, own dict, newest traceback entry -/
def ExcO (h : Heap) (e : Addr) (cls : Value) (dd : Option Addr) (tb : Value) : Prop :=
  ∃ oe vs a0, h.get? e = some oe ∧ oe.cls = cls ∧ oe.dict = dd ∧ oe.data = .fields vs ∧ vs[0]? = some a0 ∧ vs[1]? = some tb
/-- a traceback entry at T, in flight from fl -/
def TbAt (h : Heap) (e T : Addr) (fl : Value) : Prop := T ≠ e ∧ ∃ oT ts, h.get? T = some oT ∧ oT.data = .fields ts ∧ ts[3]? = some fl
def Fly (h : Heap) (e : Addr) (cls : Value) (dd : Option Addr) (tb : Option Addr) : Prop :=
  ExcO h e cls dd (tb.elim .none Value.ref) ∧ ∀ T, tb = some T → TbAt h e T .none
def Held (h : Heap) (e : Addr) (cls : Value) (dd : Option Addr) (T : Addr) (fl : Value) : Prop := ExcO h e cls dd (.ref T) ∧ TbAt h e T fl
theorem ExcO.keep {h h' : Heap} {e : Addr} {cls tb : Value} {dd : Option Addr} (x : ExcO h e cls dd tb) (k : ∀ o, h.get? e = some o → h'.get? e = some o) : ExcO h' e cls dd tb :=
  let ⟨oe, vs, a0, q, r⟩ := x; ⟨oe, vs, a0, k _ q, r⟩
theorem TbAt.keep {h h' : Heap} {e T : Addr} {fl : Value} (x : TbAt h e T fl) (k : ∀ o, h.get? T = some o → h'.get? T = some o) : TbAt h' e T fl :=
  let ⟨n, oT, ts, q, r⟩ := x; ⟨n, oT, ts, k _ q, r⟩
theorem Fly.keep {h h' : Heap} {e : Addr} {cls : Value} {dd tb : Option Addr} (x : Fly h e cls dd tb) (k : ∀ b o, h.get? b = some o → h'.get? b = some o) : Fly h' e cls dd tb :=
  ⟨x.1.keep fun o => k _ o, fun T z => (x.2 T z).keep fun o => k _ o⟩
theorem dict_mapF (o : Obj) (f : Array Value → Array Value) : (o.mapFields f).dict = o.dict := by
  obtain ⟨c, d, dt, s⟩ := o
  cases dt <;> rfl

section
variable {M : Model} {A : Around} {E : Value → Shared → Prop} {s : Shared} {base : Heap} {env : Env} {outer : List Env} {L e : Addr} {cls : Value} {dd : Option Addr} {Q : Unit → Shared → Prop}
/-- a new entry is laid -/
theorem entry_core {head : Value} {had : Bool} {oe : Obj} {vs : Array Value} {a0 : Value} (hfr : A.frames = some (env :: outer)) (hl : s.heap.FunFrames base (env :: outer)) (hf : env.frame = some L) (q : s.heap.get? e = some oe) (hc : oe.cls = cls) (hdd : oe.dict = dd)
    (hd : oe.data = .fields vs) (h0 : vs[0]? = some a0) (hsz : 1 < vs.size)
    (k : ∀ h' T, (∀ b o, b ∉ frs (env :: outer) → b ≠ e → s.heap.get? b = some o → h'.get? b = some o) → (∀ b o, s.heap.get? b = some o → b ≠ e → ∃ sl, h'.get? b = some { o with slots := sl }) → s.heap.objs.size ≤ T →
      Held h' e cls dd T (rawInt L) → Q () { s with heap := h' }) :
    wpAny M A (do let a ← frameOf env; let pl ← entryPlaceOf L had; let b ← EntryCells.newEntry head a .none (rawInt L) .none pl; setField (.ref e) 1 b) Q E s := by
  have hne : e ∉ frs (env :: outer) := fun z => by
    obtain ⟨_, o, ho, nf⟩ := hl.mem z
    rw [q] at ho; cases ho; exact nf vs hd
  refine wpAny_bind (wpAny_frameOf_fun hfr hl hf fun h1 so => ?_)
  refine wpAny_bind (wpAny_entryPlaceOf fun pl hp => ?_)
  unfold EntryCells.newEntry newFields
  refine wpAny_bind (wpAny_newObj_type ?_ (hp.sizeOk5 _ _ _ _ _))
  have q1 : h1.get? e = some oe := (so.2.1 e hne).trans q
  generalize hz : ({ cls := .type "traceback", dict := none, data := .fields ([head, .ref L, .none, rawInt L, .none] ++ (if pl.isEmpty then List.replicate 6 Value.none else pl)).toArray } : Obj) = ot
  have q2 : (h1.push ot).get? e = some oe := Heap.get?_push_of_some _ q1
  refine wpAny_setField q2 hd hsz ?_
  have nT : h1.objs.size ≠ e := Nat.ne_of_gt (Heap.lt_size q1)
  have d3 := Obj.data_mapFields hd (·.setIfInBounds 1 (Value.ref h1.objs.size))
  have e3 := Heap.get?_update_self (Obj.mapFields (·.setIfInBounds 1 (Value.ref h1.objs.size))) q2 (Obj.isFreed_of_fields d3)
  have fr : ot.isFreed = false := by rw [← hz]; rfl
  have t3 : ((h1.push ot).update e (Obj.mapFields (·.setIfInBounds 1 (Value.ref h1.objs.size)))).get? h1.objs.size = some ot := by
    rw [Heap.get?_update_other _ _ (Ne.symm nT)]
    exact Heap.get?_push_size h1 fr
  have kp : ∀ b o, b ≠ e → h1.get? b = some o → ((h1.push ot).update e (Obj.mapFields (·.setIfInBounds 1 (Value.ref h1.objs.size)))).get? b = some o := fun b o n z => by
    rw [Heap.get?_update_other _ _ (Ne.symm n)]
    exact Heap.get?_push_of_some _ z
  refine k _ h1.objs.size (fun b o hb n z => kp b o n ((so.2.1 b hb).trans z)) (fun b o z n => ?_) (Nat.le_of_eq so.1.symm) ⟨⟨_, _, a0, e3, ?_, ?_, d3, ?_, ?_⟩, nT, ot, _, t3, by rw [← hz], ?_⟩
  · obtain ⟨sl, z1⟩ := so.2.2 b o z
    exact ⟨sl, kp b _ n z1⟩
  · rw [Obj.cls_mapFields]; exact hc
  · rw [dict_mapF]; exact hdd
  · rw [Array.getElem?_setIfInBounds_ne (by decide)]; exact h0
  · simp [hsz]
  · first | (simp; done) | (rcases hp with rfl | ⟨_, _, _, _, _, _, _, rfl⟩ <;> simp)
/-- the frame is noted -/
theorem note_core {tb : Option Addr} (hfr : A.frames = some (env :: outer)) (hl : s.heap.FunFrames base (env :: outer)) (hf : env.frame = some L) (x : Fly s.heap e cls dd tb)
    (k : ∀ h' T, (∀ b o, b ∉ frs (env :: outer) → b ≠ e → tb ≠ some b → s.heap.get? b = some o → h'.get? b = some o) → (∀ b o, s.heap.get? b = some o → b ≠ e → tb ≠ some b → ∃ sl, h'.get? b = some { o with slots := sl }) → s.heap.objs.size ≤ T →
      Held h' e cls dd T (rawInt L) → Q () { s with heap := h' }) : wpAny M A (noteFrame (.ref e) env) Q E s := by
  obtain ⟨⟨oe, vs, a0, q, hc, hdd, hd, h0, h1⟩, ht⟩ := x
  have hsz : 1 < vs.size := (Array.getElem?_eq_some_iff.mp h1).1
  unfold noteFrame
  simp only [hf]
  cases tb with
  | none =>
    refine wpAny_bind (wpAny_field q hd h1 ?_)
    rw [if_neg (by decide)]
    exact entry_core hfr hl hf q hc hdd hd h0 hsz fun h' T a b c d => k h' T (fun x o y z _ => a x o y z) (fun x o y z _ => b x o y z) c d
  | some T0 =>
    obtain ⟨nT, oT, ts, qT, dT, t3⟩ := ht T0 rfl
    refine wpAny_bind (wpAny_field q hd h1 ?_)
    show wpAny M A (if (Value.ref T0 != Value.none) = true then _ else _) Q E s
    rw [if_pos (by simp)]
    refine wpAny_bind (wpAny_field qT dT t3 ?_)
    rw [if_neg (show ¬ ((Value.none == rawInt L) = true) by simp [rawInt])]
    refine wpAny_bind (wpAny_setField qT dT (Array.getElem?_eq_some_iff.mp t3).1 ?_)
    have oth : ∀ b, b ≠ T0 → (s.heap.update T0 (Obj.mapFields (·.setIfInBounds 3 Value.none))).get? b = s.heap.get? b := fun b n => Heap.get?_update_other _ _ (Ne.symm n)
    refine entry_core (s := { s with heap := s.heap.update T0 (Obj.mapFields (·.setIfInBounds 3 Value.none)) }) hfr (hl.of_keeps fun b o z nf => ⟨o, (oth b fun w => ?_).trans z, rfl⟩) hf ((oth e (Ne.symm nT)).trans q) hc hdd hd h0 hsz fun h' T a b c d => ?_
    · rw [w, qT] at z; cases z; exact nf ts dT
    · refine k h' T (fun x o y z n w => a x o y z ((oth x fun v => n (by rw [v])).trans w)) (fun x o w z n => b x o ((oth x fun v => n (by rw [v])).trans w) z) ?_ d
      have c' : (s.heap.update T0 (Obj.mapFields (·.setIfInBounds 3 Value.none))).objs.size ≤ T := c
      rw [Heap.size_after_update] at c'
      exact c'
/-- the flight ends -/
theorem flight_core {T : Addr} {fl : Value} (x : Held s.heap e cls dd T fl) (k : ∀ h', (∀ b o, b ≠ T → s.heap.get? b = some o → h'.get? b = some o) → Fly h' e cls dd (some T) → Q () { s with heap := h' }) :
    wpAny M A (setFlight (.ref e) none) Q E s := by
  obtain ⟨⟨oe, vs, a0, q, hc, hdd, hd, h0, h1⟩, nT, oT, ts, qT, dT, t3⟩ := x
  have s3 : 3 < ts.size := (Array.getElem?_eq_some_iff.mp t3).1
  unfold setFlight
  refine wpAny_bind (wpAny_field q hd h1 ?_)
  rw [if_pos (show (Value.ref T != Value.none) = true by simp)]
  have oth : ∀ b, b ≠ T → (s.heap.update T (Obj.mapFields (·.setIfInBounds 3 ((none : Option Addr).elim Value.none fun f => rawInt f)))).get? b = s.heap.get? b := fun b n => Heap.get?_update_other _ _ (Ne.symm n)
  refine wpAny_setField qT dT s3 (k _ (fun b o n z => (oth b n).trans z) ⟨⟨oe, vs, a0, (oth e (Ne.symm nT)).trans q, hc, hdd, hd, h0, h1⟩, fun T' z => ?_⟩)
  cases z
  exact ⟨nT, _, _, Heap.get?_update_self _ qT (Obj.isFreed_of_fields (Obj.data_mapFields dT _)), Obj.data_mapFields dT _, by simp [s3]⟩
end
end L2

namespace L2
open PySem PySem.Spec PyProof.Rows L3

/-- behind a call: an exception has come -/
def CXE (P : Program) (w : World) : CXT := fun outer H s E e s' => ∃ ea c dd T H', e = .ref ea ∧ s'.os = s.os ∧ AllBare s'.gens ∧ Un (frs outer) [] H H' s.heap s'.heap ∧ HOk P w H' s'.heap ∧ Fly s'.heap ea c dd (some T) ∧
  s.heap.objs.size ≤ ea ∧ s.heap.objs.size ≤ T ∧ H' ea = none ∧ H' T = none ∧ E c dd H'
/-- within a body: an exception is in flight -/
structure XState (X : Cx) (pins : List (Addr × Obj)) (σ : St) (H : Hp) (s : Shared) (ea : Addr) (c : Value) (dd tb : Option Addr) : Prop where
  inv : Inv X pins σ H s
  fly : Fly s.heap ea c dd tb
  fe : FpOk X pins H ea
  ft : ∀ T, tb = some T → FpOk X pins H T
abbrev WX := St → XK
/-- what is told of an exception (W) is enough for what the code wants of it -/
def Lifts (X : Cx) (W : WX) : Prop := ∀ (pins : List (Addr × Obj)) (σ : St) (H : Hp) (s : Shared) (ea : Addr) (c : Value) (dd tb : Option Addr), XState X pins σ H s ea c dd tb → W σ c dd H → X.xe (.ref ea) s

section
variable {X : Cx} {pins : List (Addr × Obj)} {σ : St} {H : Hp} {s : Shared}
/-- the heap has changed at the frames' slots and at untracked records of ours alone -/
theorem hok_slots {h' : Heap} {ch : List Addr} (I : Inv X pins σ H s) (hc : ∀ b ∈ ch, H b = none) (k : ∀ b o, b ∉ frs X.stack → b ∉ ch → s.heap.get? b = some o → h'.get? b = some o) : HOk X.prog X.w H h' := fun b u e => by
  refine (I.hok b u e).stay (fun d v hd q => k d v (fun z => ?_) (fun z => ?_) q) (fun _ q => q) fun _ _ q => q
  · have n := I.stkFree d z
    rcases hd with w | w
    · rw [w, e] at n; cases n
    · rw [w] at n; cases n
  · have n := hc d z
    rcases hd with w | w
    · rw [w, e] at n; cases n
    · rw [w] at n; cases n
/-- a def's body: what is told of an exception is told of the call -/
theorem lifts_fn {P : Program} {w : World} {K : PySem.W.Frag} {mg : Str → Option Value} {base : Heap} {N : List Str} {qual : Str} {scope : Scope} {f : Addr} {cd : Value} {A : Around} {outer : List Env} {s0 : Shared} {H0 : Hp} {E : XK} :
    Lifts (cxOf (CXE P w) P w K mg base N qual scope f cd A outer s0 H0 E) (fun _ => E) := by
  intro pins σ H s ea c dd tb x hE
  show wpAny (model P w) (A.deeper (envOfC qual scope s0.heap.objs.size f cd)) (leaving (envOfC qual scope s0.heap.objs.size f cd) (.ref ea)) (fun _ s'' => CXE P w outer H0 s0 E (.ref ea) s'') (fun e' s'' => CXE P w outer H0 s0 E e' s'') s
  have I := x.inv
  have eaN : s0.heap.objs.size ≤ ea := by
    rcases x.fe.2.2.2.1 with z | z
    · exact absurd (show ea ∈ ([] : List Addr) from z) (by simp)
    · exact z
  have tN : ∀ T, tb = some T → s0.heap.objs.size ≤ T := fun T z => by
    rcases (x.ft T z).2.2.2.1 with y | y
    · exact absurd (show T ∈ ([] : List Addr) from y) (by simp)
    · exact y
  unfold leaving
  refine wpAny_bind (note_core (base := base) I.ok.frames I.stack rfl x.fly fun h1 T k1 k2 hT hd1 => ?_)
  refine flight_core hd1 fun h2 k3 fl2 => ?_
  have lt0 : ∀ {b : Addr} {o : Obj}, s0.heap.get? b = some o → b < s0.heap.objs.size := fun e => Heap.lt_size e
  have sN : s0.heap.objs.size ≤ s.heap.objs.size := I.sz
  have nT0 : ∀ {b : Addr}, b < s0.heap.objs.size → b ≠ T := fun h z => absurd (Nat.lt_of_lt_of_le h (Nat.le_trans sN hT)) (by rw [z]; exact Nat.lt_irrefl _)
  have nE0 : ∀ {b : Addr}, b < s0.heap.objs.size → b ≠ ea := fun h z => absurd (Nat.lt_of_lt_of_le h eaN) (by rw [z]; exact Nat.lt_irrefl _)
  have nB0 : ∀ {b : Addr}, b < s0.heap.objs.size → tb ≠ some b := fun h z => absurd (Nat.lt_of_lt_of_le h (tN _ z)) (Nat.lt_irrefl _)
  have nL0 : ∀ {b : Addr}, b < s0.heap.objs.size → b ∉ frs outer → b ∉ frs (envOfC qual scope s0.heap.objs.size f cd :: outer) := fun h z y => by
    rcases I.stkSub _ y |> List.mem_cons.mp with u | u
    · exact absurd h (by rw [u]; exact Nat.lt_irrefl _)
    · exact z u
  have nsT : ∀ {b : Addr} {o : Obj}, s.heap.get? b = some o → b ≠ T := fun e z => absurd (Nat.lt_of_lt_of_le (Heap.lt_size e) hT) (by rw [z]; exact Nat.lt_irrefl _)
  have hok2 : HOk P w H h2 := by
    refine hok_slots (ch := ea :: tb.toList) I (fun b hb => ?_) fun b o hb hc e => k3 b o (nsT e) (k1 b o hb (fun z => hc (by rw [z]; exact List.mem_cons_self)) (fun z => hc (List.mem_cons_of_mem _ (by rw [z]; simp))) e)
    rcases List.mem_cons.mp hb with z | z
    · rw [z]; exact x.fe.1
    · cases tb with
      | none => simp at z
      | some T0 =>
        have z' : b = T0 := by simpa using z
        rw [z']; exact (x.ft T0 rfl).1
  refine ⟨ea, c, dd, T, H, rfl, I.os, I.bare, ⟨fun b o e n hb hx => ?_, fun b o e n hb hx => ?_, I.base.free, fun b o e hx => ?_, I.base.tups, I.base.frzs, I.base.tbls⟩, hok2, fl2, eaN, Nat.le_trans sN hT, x.fe.1, I.hok.fresh hT, hE⟩
  · have l := lt0 e
    exact k3 b o (nT0 l) (k1 b o (nL0 l hb) (nE0 l) (nB0 l) (I.base.keep b o e n hb hx))
  · have l := lt0 e
    obtain ⟨sl, q⟩ := I.base.slot b o e n hb hx
    obtain ⟨sl', q'⟩ := k2 b _ q (nE0 l) (nB0 l)
    exact ⟨sl', k3 b _ (nT0 l) q'⟩
  · have l := lt0 e
    obtain ⟨o', q⟩ := I.base.there b o e hx
    obtain ⟨sl', q'⟩ := k2 b _ q (nE0 l) (nB0 l)
    exact ⟨_, k3 b _ (nT0 l) q'⟩
/-- behind a call that has raised -/
theorem xstate_of {E : XK} {e : Value} {s' : Shared} (I : Inv X pins σ H s) (h : CXE X.prog X.w X.stack H s E e s') : ∃ ea c dd T H', e = .ref ea ∧ XState X pins σ H' s' ea c dd (some T) ∧ E c dd H' := by
  obtain ⟨ea, c, dd, T, H', rfl, os, bare, un, hok, fl, l1, l2, n1, n2, q⟩ := h
  exact ⟨ea, c, dd, T, H', rfl, ⟨I.call' os un hok bare (fun b z => absurd z (by simp)), fl, I.fpOk l1 n1, fun T' z => by cases z; exact I.fpOk l2 n2⟩, q⟩
theorem passX {W : WX} {E : XK} (hL : Lifts X W) (h : ∀ σ c d H, E c d H → W σ c d H) : Passes (CXE X.prog X.w) X E := fun pins σ H s e s' I q => by
  obtain ⟨ea, c, dd, T, H', rfl, x, hE⟩ := xstate_of I q
  exact hL _ _ _ _ _ _ _ _ x (h _ _ _ _ hE)
end

/-! ### calls that may raise: what is wanted of the exception hangs on the names' values -/
def tCallX (sp : Sp) (dvs : List V) (W : WX) (t : TA) : TE := fun σ H Q => t σ H fun vs H1 => sp (vs ++ dvs) H1 Q (W σ)
section
variable {X : Cx} {k : Nat} {f C : Addr} {fd : FuncData} {ps : List Str} {sp : Sp} {dvs : List V} {ds : List Value} {W : WX} {x m : Str} {p pos apos : Pos} {e o : Expr} {es : List Expr} {ta : TE} {t : TA} {P : Program} {w : World}
theorem run_fnX {pins : List (Addr × Obj)} {σ : St} {H : Hp} {s : Shared} {Q : VK} {us : List Value} {vs : List V} (F : FnOk X.prog X.w X.K X.mg X.base (CXE X.prog X.w) k f fd ps sp) (hr : Room k X.A) (hb : Binds X.K fd ps ds) (hd : Vals dvs ds) (hx : Lifts X W)
    (I : Inv X pins σ H s) (r : Vals vs us) (h : sp (vs ++ dvs) H Q (W σ)) : wpAny (model X.prog X.w) X.A (call (.ref f) us) (EP X pins σ Q) X.xe s := by
  have r2 : Vals (vs ++ dvs) (us ++ ds) := r.append hd
  have hl : (us ++ ds).length = ps.length := by rw [← r2.length]; exact F.len _ _ _ _ h
  refine wpAny_call (codeAny_mono (F.run X.A X.stack s H ⟨us, []⟩ (us ++ ds) (vs ++ dvs) Q (W σ) hr I.env0 (hb s us I.kIn hl) r2 h) fun r s' hq => ?_)
  cases r with
  | error e =>
    obtain ⟨ea, c, dd, T, H', rfl, x, hE⟩ := xstate_of I hq
    exact hx _ _ _ _ _ _ _ _ x hE
  | ok fl =>
    cases fl with
    | ret u => exact I.after hq
    | next => exact False.elim hq
    | brk => exact False.elim hq
    | cont => exact False.elim hq
theorem pe_callX (F : FnOk P w X.K X.mg X.base (CXE P w) k f fd ps sp) (hr : Room k X.A) (hL : Lifts X W) (hg : Gl X x) (hm : X.mg x = some (.ref f)) (hk : PySem.W.keepIn X.K (.ref f) = true) (hb : Binds X.K fd ps ds) (hd : Vals dvs ds)
    (ha : PA X (e :: es) t) (hP : X.prog = P := by rfl) (hw : X.w = w := by rfl) (hdb : (x == ("__debug__" : Str)) = false := by decide) (he : starEach (e :: es) X.env = (false, eval e X.env) :: starEach es X.env := by rfl) (hpl : (backTo pos (starEach es X.env)).any (·.1) = false := by rfl) :
    PE X (.Call (.Name x p) (e :: es) [] pos) (tCallX sp dvs W t) := by
  subst hP hw
  intro pins s σ H Q I h
  refine wpAny_Call_Name_kw (ld_glob I hg hm ?_ hdb)
  refine PySem.W.callWith_K (h₀ := X.base) I.ok.mod.kin hk (thn (ha pos pins s σ H _ I h) fun us s1 ⟨vs, H1, I1, r, q⟩ => ⟨I1.kIn, ?_⟩) he hpl
  exact run_fnX F hr hb hd hL I1 r q
end

/-! ### a def that may raise -/
section
variable {P : Program} {w : World} {K : PySem.W.Frag} {mg : Str → Option Value} {base : Heap}
/-- the body is read with two facts at hand: its exceptions are the call's (W: E whatever the names hold), and loops let them pass -/
theorem Fun.okX {x qual : Str} {st : Stmt} {f : Addr} {fd : FuncData} {N ps : List Str} {k : Nat} {sp : Sp} (F : Fun K x qual st f fd) (S : FnScope N ps (defScope st)) (len : ∀ vs H Q E, sp vs H Q E → vs.length = ps.length)
    (hbody : ∀ (cdv : Value) (A : Around) (outer : List Env) (s : Shared) (H : Hp) (vs : List V) (Q : VK) (E : XK), Room k (A.deeper (envOfC qual (defScope st) s.heap.objs.size f cdv)) →
      Lifts (cxOf (CXE P w) P w K mg base N qual (defScope st) f cdv A outer s H E) (fun _ => E) →
      PassesOwn (model P w) (A.deeper (envOfC qual (defScope st) s.heap.objs.size f cdv)) (envOfC qual (defScope st) s.heap.objs.size f cdv) (cxOf (CXE P w) P w K mg base N qual (defScope st) f cdv A outer s H E).xe → sp vs H Q E →
      ∃ t, PSs (cxOf (CXE P w) P w K mg base N qual (defScope st) f cdv A outer s H E) (defBody st) t ∧ t { nx := fun _ H' => Q .non H', rt := Q } (start N vs) H) : FnOk P w K mg base (CXE P w) (k + 1) f fd ps sp := by
  obtain ⟨oc, od, kV, doc, pm, an, cdv, ct, osl, rfl, lk, hcd⟩ := F.ex
  exact fn_of lk hcd S len fun A outer s H vs Q E hr hsp => hbody cdv A outer s H vs Q E hr lifts_fn PassesOwn.leaving hsp
/-- a def that does not raise, as one that may -/
theorem FnOk.up {k : Nat} {f : Addr} {fd : FuncData} {ps : List Str} {sp : Sp} (F : FnOk P w K mg base CX0 k f fd ps sp) : FnOk P w K mg base (CXE P w) k f fd ps sp :=
  ⟨F.len, fun A outer s H args us vs Q E hr e0 hb hv hs => codeAny_mono (F.run A outer s H args us vs Q E hr e0 hb hv hs) fun r s' h => by
    cases r with
    | error e => exact (show False from h).elim
    | ok fl => cases fl <;> exact h⟩
end
end L2

namespace L2
open PySem PySem.Spec PyProof.Rows L3
open Sem (wp)

abbrev bmVE : List Value := [.type "ValueError", .type "Exception", .type "BaseException", .type "object"]
/-- what a class of errors under ValueError is in the heap (its own tail has no __init__); oi: its own __init__, where it has one -/
def XAt (h : Heap) (C : Addr) (oi : Option Value) : Prop := ∃ nm q N bs bm hdct sn sub ab col dd k0 k1 k2 k3 k5 mN, h.get? C = some (excClassObj nm q C N bs bm hdct sn sub ab col dd k0 k1 k2 k3 k5 "ValueError.__new__") ∧ h.Ns N mN ∧ mN "__init__" = oi ∧ OwnTail h bmVE bm
theorem XAt.keeps {h h' : Heap} {C : Addr} {oi : Option Value} (x : XAt h C oi) (k : ∀ b o, h.get? b = some o → h'.get? b = some o) : XAt h' C oi :=
  let ⟨nm, q, N, bs, bm, hdct, sn, sub, ab, col, dd, k0, k1, k2, k3, k5, mN, hC, hN, hi, T⟩ := x
  ⟨nm, q, N, bs, bm, hdct, sn, sub, ab, col, dd, k0, k1, k2, k3, k5, mN, k _ _ hC, hN.keeps k, hi, T.keeps k⟩
/-- by looking: a class of errors that has no __init__ of its own -/
def XCls (K : PySem.W.Frag) (C : Addr) : Prop := PySem.W.excIn K C bmVE "ValueError.__new__" = true
theorem XCls.at {K : PySem.W.Frag} {C : Addr} {h : Heap} (x : XCls K C) (X : K.In h) : XAt h C none := by
  unfold XCls PySem.W.excIn at x
  split at x
  · rename_i dd cd sl ho
    split at x
    · rename_i C' bm k0 k1 k2 k3 n k5 hm hs
      simp only [Bool.and_eq_true, beq_iff_eq, Bool.not_eq_true'] at x
      obtain ⟨⟨⟨⟨⟨e1, e2⟩, hdel⟩, ht⟩, hok⟩, hni⟩ := x
      subst e1 e2
      obtain ⟨nm, bs, mro, ns, qn, hd, sn, sub, ab, col, del⟩ := cd
      dsimp only at hm hdel hok hni
      subst hm hdel
      have hsl : sl = #[k0, k1, k2, k3, some (.builtin "ValueError.__new__"), k5] := by
        obtain ⟨l⟩ := sl
        exact congrArg Array.mk hs
      subst hsl
      exact ⟨nm, qn, ns, bs, bm, hd, sn, sub, ab, col, dd, k0, k1, k2, k3, k5, _, X _ _ ho, .of_isNs (PySem.W.isNs_of_in X hok), PySem.W.nsMap_none_of_in X hok hni, PySem.W.tail_of_in X ht⟩
    · cases x
  · cases x

section
variable {prog : Program} {w : World} {A : Around} {E : Value → Shared → Prop} {h : Heap} {g : Array GenState} {d : Drawn} {t : Nat} {os : OsState} {C : Addr}
/-- the record that __new__ makes -/
abbrev newX (C t : Addr) : Obj := { cls := .ref C, data := .fields #[.ref t, .none, .none, .none, .bool false, .none] }
abbrev argT (us : List Value) : Obj := { cls := .type "tuple", data := .seq us.toArray }
theorem exc_made {us : List Value} {Q : Fin → Shared → Prop} (x : XAt h C none) (hz : us.length ≤ sizeLine)
    (hq : ∀ h' t', (∀ b o, h.get? b = some o → h'.get? b = some o) → h'.get? (h.objs.size + 1) = some (newX C t') → Q (.done (.ret (.ref (h.objs.size + 1)))) ⟨h', g, d, t, os⟩) :
    wpAny (model prog w) A (Builtin.«type.__call__» ⟨.ref C :: us, []⟩) Q E ⟨h, g, d, t, os⟩ := by
  obtain ⟨nm, q, N, bs, bm, hdct, sn, sub, ab, col, dd, k0, k1, k2, k3, k5, mN, hC, hN, hi, T⟩ := x
  have Fv := PySem.F.excBase_ValueError
  repeat (first | (with_reducible refine wpAny_loadPart_at hC ?_) | (with_reducible refine wpAny_madeBy_exc hC ?_) | wp_step)
  refine codeAny_call_builtin_code (Code.quiet_builtin _ Fv.quiet) (wpAny_check_new_subU Fv rfl T hC (codeAny_exc_new_subU Fv rfl Fv T hC ?_ hz))
  show wpAny _ _ _ _ _ _
  have kk : ∀ b o, h.get? b = some o → ((h.push { cls := .type "tuple", data := .seq us.toArray }).push { cls := .ref C, data := .fields #[.ref h.objs.size, .none, .none, .none, .bool false, .none] }).get? b = some o := fun b o z => Heap.get?_push_of_some _ (Heap.get?_push_of_some _ z)
  have c1 := kk _ _ hC
  have n1 := hN.keeps kk
  have T1 := T.keeps kk
  have ge : ((h.push { cls := .type "tuple", data := .seq us.toArray }).push { cls := .ref C, data := .fields #[.ref h.objs.size, .none, .none, .none, .bool false, .none] }).get? (h.objs.size + 1) = some { cls := .ref C, data := .fields #[.ref h.objs.size, .none, .none, .none, .bool false, .none] } := by heap_get
  have cc : (Value.ref C :: bm).contains (.ref C) = true := by simp
  unfold isInstance
  repeat (first | (with_reducible refine wpAny_loadPart_at ge ?_) | (with_reducible refine wpAny_isSubtype_exc c1 ?_; rw [cc]) | wp_step)
  show wpAny _ _ (typeLookup (.ref C) _) _ _ _
  refine wpAny_typeLookup_tail c1 n1 T1 Fv.mroIs Fv.init.lookup ?_
  rw [hi]
  refine wpAny_holding (wpAny_bind (wpAny_of_eq (Fv.init.bind _) (wpAny_bind (wpAny_call (codeAny_call_builtin Fv.init.plain Fv.initEntry (wpAny_check_init_subU Fv T1 c1 ge rfl ?_))))))
  wp_walk
  refine hq _ (h.objs.size + 2) (fun b o z => ?_) ?_
  · rw [Heap.get?_update_other _ _ (Nat.ne_of_gt (Nat.lt_succ_of_lt (Heap.lt_size z)))]
    exact Heap.get?_push_of_some _ (kk b o z)
  · rw [Heap.get?_update_self _ (Heap.get?_push_of_some _ ge) rfl]
    simp only [Heap.size_push]
    rfl
/-- C(..) of a class of errors without an __init__ of its own: the address is told -/
theorem exc_call {us : List Value} {Q : Value → Shared → Prop} (x : XAt h C none) (hz : us.length ≤ sizeLine)
    (hq : ∀ h' t', (∀ b o, h.get? b = some o → h'.get? b = some o) → h'.get? (h.objs.size + 1) = some (newX C t') → Q (.ref (h.objs.size + 1)) ⟨h', g, d, t, os⟩) :
    wpAny (model prog w) A (call (.ref C) us) Q E ⟨h, g, d, t, os⟩ := by
  obtain ⟨nm, q, N, bs, bm, hdct, sn, sub, ab, col, dd, k0, k1, k2, k3, k5, mN, hC, r⟩ := id x
  have f1 := tc_lookup
  have f2 := tc_bind (.ref C)
  have hT : (⟨h, g, d, t, os⟩ : Shared).TypeIs (.ref C) "type" := ⟨_, hC, rfl⟩
  refine wpAny_call (codeAny_of_tree ?_)
  show wpAny _ _ (callAny (.ref C) _) _ _ _
  repeat (any_goals (first | assumption | (with_reducible refine wpAny_loadPart_at hC ?_) | wp_step))
  exact ⟨rfl, codeAny_call_builtin_at (Code.quiet_builtin _ (by decide +kernel)) entry_typeCall (wpAny_check_type_call_sub hC (exc_made x hz fun h' t' k q => hq h' t' k q))⟩
end
section
variable {M : Model} {A : Around} {E : Value → Shared → Prop} {s : Shared} {env : Env} {C : Addr}
/-- raise of a made exception -/
theorem raise_core {x : Sem Value} {Q : Flow → Shared → Prop} (hh : A.handled = none)
    (k : wpAny M A x (fun v s1 => ∃ e oe vs a0 oi, v = .ref e ∧ XAt s1.heap C oi ∧ s1.heap.get? e = some oe ∧ oe.cls = .ref C ∧ oe.data = .fields vs ∧ vs[0]? = some a0 ∧ vs[1]? = some .none ∧ E (.ref e) s1) E s) :
    wpAny M A (raiseStmt env (some x) none) Q E s := by
  unfold raiseStmt
  refine wpAny_bind (wpAny_mono k (fun v s1 z => ?_) fun _ _ y => y)
  obtain ⟨e, oe, vs, a0, oi, rfl, ⟨nm, q, N, bs, bm, hdct, sn, sub, ab, col, dd, k0, k1, k2, k3, k5, mN, hC, hN, hi, T⟩, he, hc, hd, h0, h1, hE⟩ := z
  have cB : (Value.ref C :: bm).contains (.type "BaseException") = true := by rw [List.contains_cons, T.hasType (show bmVE.contains (.type "BaseException") = true from rfl), Bool.or_true]
  obtain ⟨oc, od, oda, osl⟩ := oe
  dsimp only at hc hd
  subst hc hd
  obtain ⟨hp, g, d, tk, os⟩ := s1
  repeat (first | (with_reducible refine wpAny_loadPart_at he ?_) | (with_reducible refine wpAny_loadPart_at hC ?_) | (with_reducible refine wpAny_isSubtype_exc hC ?_; rw [cB]) | wp_step)
  rw [h1]
  refine wpAny_pure ?_
  rw [if_neg (by decide)]
  exact wpAny_pure (wpAny_raiseNew_none hh hE)
end
end L2

namespace L2
open PySem PySem.Spec PyProof.Rows L3

/-! ### raise -/
structure XC (K : PySem.W.Frag) (C : Addr) : Prop where
  exc : XCls K C
  kp : PySem.W.keepIn K (.ref C) = true
def tRaise (C : Addr) (W : WX) (t : TA) : TS := fun _ σ H => t σ H fun vs H1 => vs.length ≤ sizeLine ∧ W σ (.ref C) none H1
section
variable {X : Cx} {W : WX} {C : Addr} {x : Str} {np cpos pos : Pos} {e : Expr} {es : List Expr} {t : TA}
theorem ps_raise (hc : X.calm = true) (hL : Lifts X W) (xc : XC X.K C) (hg : Gl X x) (hm : X.mg x = some (.ref C)) (ha : PA X (e :: es) t) (hdb : (x == ("__debug__" : Str)) = false := by decide)
    (he : starEach (e :: es) X.env = (false, eval e X.env) :: starEach es X.env := by rfl) (hpl : (backTo cpos (starEach es X.env)).any (·.1) = false := by rfl) :
    PS X (.Raise (some (.Call (.Name x np) (e :: es) [] cpos)) none pos) (tRaise C W t) := by
  intro pins s σ H D I h
  rw [arm_exec_Raise]
  refine wpAny_bind (wpAny_standAt (raise_core (C := C) (I.ok.hd hc) (wpAny_bind (wpAny_mono ?_ (fun v s3 z => wpAny_bind (wpAny_standAt (wpAny_pure z))) fun _ _ y => y))))
  refine wpAny_Call_Name_kw (ld_glob I hg hm ?_ hdb)
  refine PySem.W.callWith_K (h₀ := X.base) I.ok.mod.kin xc.kp (thn (ha cpos pins s σ H _ I h) fun us s1 ⟨vs, H1, I1, r, hz, q⟩ => ⟨I1.kIn, ?_⟩) he hpl
  have xa := xc.exc.at I1.kIn
  obtain ⟨h1, g1, d1, t1, os1⟩ := s1
  refine exc_call xa (by rw [List.nil_append, ← r.length]; exact hz) fun h' t' k ge => ?_
  have I2 := I1.kept (t' := t1) k
  refine ⟨_, _, _, _, _, rfl, xa.keeps k, ge, rfl, rfl, rfl, rfl, hL _ _ _ _ _ _ _ (tb := none) ⟨I2, ⟨⟨_, _, _, ge, rfl, rfl, rfl, rfl, rfl⟩, fun T z => by cases z⟩, I1.fpOk (Nat.le_succ _) (I1.hok.fresh (Nat.le_succ _)), fun T z => by cases z⟩ q⟩
end

/-! ### does a clause match -/
section
variable {M : Model} {A : Around} {E : Value → Shared → Prop} {s : Shared}
theorem match_core {K : PySem.W.Frag} {ea : Addr} {c cv tb : Value} {dd : Option Addr} {b : Bool} {Q : Bool → Shared → Prop} (X : K.In s.heap) (he : ExcO s.heap ea c dd tb) (hb : PySem.W.kitCls K c cv = some b) (hx : PySem.W.kitCls K cv (.type "BaseException") = some true)
    (hq : Q b s) : wpAny M A (excMatches (.ref ea) cv) Q E s := by
  obtain ⟨l1, l2, l3⟩ := PySem.W.kit_cls (M := M) X hb
  obtain ⟨_, _, m3⟩ := PySem.W.kit_cls (M := M) X hx
  obtain ⟨oe, vs, a0, q, hc, _⟩ := he
  have nt := tc_notTuple
  unfold excMatches isInstance
  refine wpAny_bind (wpAny_bind (l1.at ?_))
  rw [nt]
  refine wpAny_pure ?_
  rw [if_neg Bool.false_ne_true]
  refine wpAny_bind (wpAny_pure ?_)
  simp only [List.forIn_cons, List.forIn_nil]
  unfold isExcClass
  refine wpAny_bind (wpAny_bind (wpAny_bind (wpAny_bind (l2.at ?_))))
  rw [if_pos rfl]
  refine m3.at ?_
  simp only [Bool.not_true, Bool.false_eq_true, if_false]
  refine wpAny_pure (wpAny_pure ?_)
  obtain ⟨hp, g, d, tk, os⟩ := s
  unfold typeOf
  refine wpAny_bind (wpAny_bind ?_)
  refine wpAny_loadPart_at q (wpAny_pure ?_)
  rw [hc]
  refine wpAny_bind (wpAny_bind (wpAny_bind (l3.at ?_)))
  cases b with
  | true => exact wpAny_pure (wpAny_pure (wpAny_pure hq))
  | false => exact wpAny_pure (wpAny_pure (wpAny_pure hq))
end

/-! ### the contexts of a try -/
abbrev Cx.body (X : Cx) (pn : List (Addr × Obj)) (E : Value → Shared → Prop) : Cx := { X with pn := pn, xe := E }
abbrev Cx.suite (X : Cx) (ea : Addr) (pn : List (Addr × Obj)) : Cx := { X with A := X.A.mark (some (.ref ea)), calm := false, pn := pn, xe := fun _ _ => False }
section
variable {X : Cx} {pins pl : List (Addr × Obj)} {σ : St} {H : Hp} {s : Shared} {ea : Addr} {E : Value → Shared → Prop}
theorem ok_body (ok : X.Ok) (pn : List (Addr × Obj)) (E : Value → Shared → Prop) : (X.body pn E).Ok :=
  ⟨ok.mod, ok.kind, ok.glob, ok.blt, ok.above, ok.inj, ok.has, ok.cab, ok.hd, ok.frames, ok.stk, ok.exf, ok.bs, ok.bsz, ok.noex, ok.exfs, ok.funs, ok.frf⟩
theorem ok_unbody {pn : List (Addr × Obj)} (ok : (X.body pn E).Ok) : X.Ok :=
  ⟨ok.mod, ok.kind, ok.glob, ok.blt, ok.above, ok.inj, ok.has, ok.cab, ok.hd, ok.frames, ok.stk, ok.exf, ok.bs, ok.bsz, ok.noex, ok.exfs, ok.funs, ok.frf⟩
theorem ok_suite (ok : X.Ok) (ea : Addr) (pn : List (Addr × Obj)) : (X.suite ea pn).Ok :=
  ⟨ok.mod, ok.kind, ok.glob, ok.blt, ok.above, ok.inj, ok.has, ok.cab, fun z => (by cases z), ok.frames, ok.stk, ok.exf, ok.bs, ok.bsz, ok.noex, ok.exfs, ok.funs, ok.frf⟩
theorem Inv.body (I : Inv X pins σ H s) (E : Value → Shared → Prop) : Inv (X.body (X.pn ++ pins) E) [] σ H s :=
  ⟨ok_body I.ok _ E, I.os, I.bare, I.base, I.loc, I.cell, I.free, I.freeC, fun p hp => I.pin p (by simpa using hp), I.hok, I.len⟩
theorem Inv.unbody (I : Inv (X.body (X.pn ++ pins) E) pl σ H s) : Inv X pins σ H s :=
  ⟨ok_unbody I.ok, I.os, I.bare, I.base, I.loc, I.cell, I.free, I.freeC, fun p hp => I.pin p (List.mem_append_left _ hp), I.hok, I.len⟩
theorem Inv.suite (I : Inv X pins σ H s) (ea : Addr) : Inv (X.suite ea (X.pn ++ pins)) [] σ H s :=
  ⟨ok_suite I.ok ea _, I.os, I.bare, I.base, I.loc, I.cell, I.free, I.freeC, fun p hp => I.pin p (by simpa using hp), I.hok, I.len⟩
theorem Inv.unsuite (ok : X.Ok) (I : Inv (X.suite ea (X.pn ++ pins)) pl σ H s) : Inv X pins σ H s :=
  ⟨ok, I.os, I.bare, I.base, I.loc, I.cell, I.free, I.freeC, fun p hp => I.pin p (List.mem_append_left _ hp), I.hok, I.len⟩
theorem FpOk.body {b : Addr} (f : FpOk (X.body (X.pn ++ pins) E) pl H b) : FpOk X pins H b :=
  ⟨f.1, f.2.1, f.2.2.1, f.2.2.2.1, f.2.2.2.2.1, fun p hp => f.2.2.2.2.2 p (List.mem_append_left _ hp)⟩
theorem SP.unbody {D : Ends} {f : Flow} (h : SP (X.body (X.pn ++ pins) E) pl D f s) : SP X pins D f s := by
  cases f with
  | next => obtain ⟨σ', H', I, q⟩ := h; exact ⟨σ', H', I.unbody, q⟩
  | brk => obtain ⟨σ', H', I, q⟩ := h; exact ⟨σ', H', I.unbody, q⟩
  | cont => obtain ⟨σ', H', I, q⟩ := h; exact ⟨σ', H', I.unbody, q⟩
  | ret u => obtain ⟨v, σ', H', I, r, q⟩ := h; exact ⟨v, σ', H', I.unbody, r, q⟩

/-- the exception is looked at in this frame -/
theorem look_core {c : Value} {dd tb : Option Addr} {Q : Unit → Shared → Prop} {E' : Value → Shared → Prop} (hs : X.stack = X.env :: X.outer) (hf : X.env.frame = some X.env.locals) (x : XState X pins σ H s ea c dd tb)
    (k : ∀ h' T, Inv X pins σ H { s with heap := h' } → Fly h' ea c dd (some T) → FpOk X pins H ea → FpOk X pins H T → Q () { s with heap := h' }) :
    wpAny (model X.prog X.w) X.A (noteFrame (.ref ea) X.env) (fun _ s2 => wpAny (model X.prog X.w) X.A (setFlight (.ref ea) none) Q E' s2) E' s := by
  have I := x.inv
  have st := I.stack
  have fr := I.ok.frames
  rw [hs] at st fr
  refine note_core (base := X.base) fr st hf x.fly fun h1 T k1 k2 hT hd1 => ?_
  refine flight_core hd1 fun h2 k3 fl2 => ?_
  have nsT : ∀ {b : Addr} {o : Obj}, s.heap.get? b = some o → b ≠ T := fun e z => absurd (Nat.lt_of_lt_of_le (Heap.lt_size e) hT) (by rw [z]; exact Nat.lt_irrefl _)
  have hch : ∀ b ∈ ea :: tb.toList, FpOk X pins H b := fun b hb => by
    rcases List.mem_cons.mp hb with z | z
    · rw [z]; exact x.fe
    · cases tb with
      | none => simp at z
      | some T0 =>
        have z' : b = T0 := by simpa using z
        rw [z']; exact x.ft T0 rfl
  have n1 : ∀ {b : Addr}, b ∉ ea :: tb.toList → b ≠ ea := fun h z => h (by rw [z]; exact List.mem_cons_self)
  have n2 : ∀ {b : Addr}, b ∉ ea :: tb.toList → tb ≠ some b := fun h z => h (List.mem_cons_of_mem _ (by rw [z]; simp))
  have kk : ∀ b o, b ∉ frs X.stack → b ∉ ea :: tb.toList → s.heap.get? b = some o → h2.get? b = some o := fun b o hb hc e => k3 b o (nsT e) (k1 b o (by rw [← hs]; exact hb) (n1 hc) (n2 hc) e)
  have ks : ∀ b o, b ∉ ea :: tb.toList → s.heap.get? b = some o → ∃ sl, h2.get? b = some { o with slots := sl } := fun b o hc e => by
    obtain ⟨sl, q⟩ := k2 b o e (n1 hc) (n2 hc)
    exact ⟨sl, k3 b _ (nsT e) q⟩
  have I2 : Inv X pins σ H { s with heap := h2 } := I.call (g' := s.gens) (d' := s.drawn) (t' := s.toks) (ch := ea :: tb.toList)
    ⟨fun b o e n hb hx => kk b o hb hx e, fun b o e n hb hx => ks b o hx e, fun _ _ _ n _ => n, fun b o e hx => let ⟨sl, q⟩ := ks b o hx e; ⟨_, q⟩, fun _ _ e => e, fun _ _ _ e => e, fun b ps e => ⟨#[], by rw [e]; simp⟩⟩
    (hok_slots I (fun b hb => (hch b hb).1) kk) I.bare fun b hb => ⟨(hch b hb).2.2.2.1, (hch b hb).2.1, (hch b hb).2.2.2.2.1, (hch b hb).2.2.2.2.2⟩
  exact k h2 T I2 fl2 x.fe (I.fpOk hT (I.hok.fresh hT))
end

/-! ### the exception as an object -/
def exo (ea : Addr) (c : Value) (dd : Option Addr) : HO := .ext fun h => ∃ o vs, h.get? ea = some o ∧ o.cls = c ∧ o.dict = dd ∧ o.data = .fields vs
theorem exo_ok {P : Program} {w : World} {H : Hp} {h : Heap} {ea : Addr} {c tb : Value} {dd : Option Addr} (x : ExcO h ea c dd tb) : ObjOk P w H h ea (exo ea c dd) := by
  obtain ⟨oe, vs, a0, q, hc, hdd, hd, _⟩ := x
  exact ⟨⟨oe, vs, q, hc, hdd, hd⟩, ⟨oe, q⟩, fun h1 h2 ⟨o, vs, e, r⟩ k => ⟨o, vs, k o e, r⟩⟩
section
variable {X : Cx} {pins : List (Addr × Obj)} {σ : St} {H : Hp} {s : Shared}
/-- the name of an except clause goes -/
theorem goes_ok {M : Model} {A : Around} {E : Value → Shared → Prop} {i : Nat} {n : Str} {pos : Pos} {Q : Unit → Shared → Prop} (I : Inv X pins σ H s) (hN : X.N.Nodup) (hi : X.N[i]? = some n) (hl : X.env.scope.names.lookup n = some .local)
    (k : ∀ s', Inv X pins (σ.set i none) H s' → Q () s') : wpAny M A (do bindName X.env n .none; unbindBehindTheSuite X.env n pos) Q E s := by
  obtain ⟨m, hn, hlo⟩ := id I.loc
  have hcls : (X.env.scope.kind == .class || (X.env.scope.kind == .module && X.env.locals != X.env.globals)) = false := by rw [I.ok.kind]; rfl
  have hil : i < σ.length := by rw [I.len]; exact (List.getElem?_eq_some_iff.mp hi).1
  refine wpAny_nameGoes_keeps hl hn hcls fun h' v hn' hs => k _ ?_
  have lt0 : ∀ {b : Addr} {o : Obj}, X.s₀.heap.get? b = some o → b ≠ X.env.locals := fun e => Nat.ne_of_lt (Nat.lt_of_lt_of_le (Heap.lt_size e) I.ok.above)
  refine ⟨I.ok, I.os, I.bare, ⟨fun b o e n hb hx => (hs.2 b (lt0 e)).trans (I.base.keep b o e n hb hx), fun b o e n hb hx => let ⟨sl, q⟩ := I.base.slot b o e n hb hx; ⟨sl, (hs.2 b (lt0 e)).trans q⟩, I.base.free,
    fun b o e hx => let ⟨o', q⟩ := I.base.there b o e hx; ⟨o', (hs.2 b (lt0 e)).trans q⟩, I.base.tups, I.base.frzs, I.base.tbls⟩, ⟨_, hn', fun j y v' e1 e2 e3 => ?_⟩, fun y c e => let ⟨u, z⟩ := I.cell y c e; ⟨u, z.sameBut hs (I.cne y c e)⟩, I.free, I.freeC,
    fun p hp => let ⟨e, n, ne, r⟩ := I.pin p hp; ⟨(hs.2 p.1 ne).trans e, n, ne, r⟩, fun b u e => ?_, by simpa using I.len⟩
  · by_cases hj : j = i
    · subst hj
      rw [List.getElem?_set_self hil] at e2
      cases e2
    · rw [List.getElem?_set_ne (Ne.symm hj)] at e2
      obtain ⟨u, r, q⟩ := hlo j y v' e1 e2 e3
      refine ⟨u, r, ?_⟩
      rcases q with ⟨kd, e⟩ | ⟨kd, c, e, z⟩
      · refine .inl ⟨kd, ?_⟩
        have ny : y ≠ n := fun z => hj (nodup_ix hN e1 (z ▸ hi))
        show (if y = n then v else m y) = some u
        rw [if_neg ny]
        exact e
      · exact .inr ⟨kd, c, e, z.sameBut hs (I.cne y c e)⟩
  · refine (I.hok b u e).stay (fun d w hd q => (hs.2 d fun z => ?_).trans q) (fun _ q => q) fun _ _ q => q
    have fr := I.free
    rw [← z] at fr
    rcases hd with y | y
    · rw [y, e] at fr; cases fr
    · rw [y] at fr; cases fr
end

/-! ### try: .. except C as n: .. -/
def tTryAs (K : PySem.W.Frag) (cv : Value) (i : Nat) (tb : WX → TS) (ts : TS) : TS := fun D σ H => tb (fun σ' c dd H' => PySem.W.kitCls K c cv = some true ∧
  ∀ ea, H' ea = none → ts ⟨fun σ2 H2 => D.nx (σ2.set i none) H2, D.rt, fun σ2 H2 => D.bk (σ2.set i none) H2, fun σ2 H2 => D.ct (σ2.set i none) H2⟩ (σ'.set i (some (.ref ea))) (upd H' ea (exo ea c dd))) D σ H
def tTry0 (K : PySem.W.Frag) (cv : Value) (tb : WX → TS) (ts : TS) : TS := fun D σ H => tb (fun σ' c dd H' => PySem.W.kitCls K c cv = some true ∧ ts D σ' H') D σ H
section
variable {X : Cx} {body : List Stmt} {b0 : Stmt} {suite : List Stmt} {x n : Str} {np hpos pos : Pos} {tb : WX → TS} {ts : TS} {cv : Value} {i : Nat}
theorem ps_tryAs (hs : X.stack = X.env :: X.outer) (hf : X.env.frame = some X.env.locals) (hx : X.ex = []) (hN : X.N.Nodup) (hi : X.N[i]? = some n) (hl : X.env.scope.names.lookup n = some .local)
    (hg : Gl X x) (hm : X.mg x = some cv) (hbx : PySem.W.kitCls X.K cv (.type "BaseException") = some true)
    (hb : ∀ (W : WX) (pn : List (Addr × Obj)) (E : Value → Shared → Prop), Lifts (X.body pn E) W → PassesOwn (model X.prog X.w) X.A X.env E → PSs (X.body pn E) body (tb W))
    (hsu : ∀ (ea : Addr) (pn : List (Addr × Obj)), PSs (X.suite ea pn) (b0 :: suite) ts) (hdb : (x == ("__debug__" : Str)) = false := by decide) :
    PS X (.Try body [.ExceptHandler (some (.Name x np)) (some n) (b0 :: suite) hpos] [] [] pos) (tTryAs X.K cv i tb ts) := by
  intro pins s σ H D I h
  have ok := I.ok
  refine wpAny_Try_except (wpAny_mono (hb _ (X.pn ++ pins) _ ?_ PassesOwn.looking [] s σ H D (I.body _) h) (fun f s1 q => ?_) fun _ _ y => y)
  · -- the exception
    intro pl σ1 H1 s1 ea c dd tb1 x1 hW
    obtain ⟨hk, hW⟩ := hW
    have x2 : XState X pins σ1 H1 s1 ea c dd tb1 := ⟨x1.inv.unbody, x1.fly, x1.fe.body, fun T z => (x1.ft T z).body⟩
    refine look_core hs hf x2 fun h' T I2 fl fe fT => ?_
    have I3 := I2.suite ea
    refine wpAny_handleBy_cons (codeAny_handlers_test (ld_glob (X := X.suite ea (X.pn ++ pins)) I3 hg hm ?_ hdb)) (by intro z; cases z)
    refine match_core I3.kIn fl.1 hk hbx (codeAny_handlers_suite_as ?_)
    refine flight_core (T := T) (fl := .none) ⟨fl.1, fl.2 T rfl⟩ fun h3 k3 fl3 => ?_
    have I4 : Inv X pins σ1 H1 { s1 with heap := h3 } := Inv.turned (s := { s1 with heap := h' }) (h' := h3) (t' := s1.toks) (it := T) I2 (fun b o hb e => k3 b o hb e) fT.1 fT.2.1 fT.2.2.2.1 fT.2.2.2.2.1 fT.2.2.2.2.2
    have ya : X.s₀.heap.objs.size ≤ ea := by
      rcases fe.2.2.2.1 with z | z
      · rw [hx] at z; exact absurd z (by simp)
      · exact z
    have I5 := Inv.adopt (o := exo ea c dd) I4 fe.1 ya fe.2.1 fe.2.2.2.2.1 fe.2.2.2.2.2 (exo_ok fl3.1)
    have I6 := I5.suite ea
    refine store_ok (X := X.suite ea (X.pn ++ pins)) (v := .ref ea) I6 hN hi (.inl hl) rfl (fun s4 I7 => ?_) (.inr hl)
    refine wpAny_mono (hsu ea (X.pn ++ pins) [] s4 _ _ _ I7 (hW ea fe.1)) (fun f s5 q => ?_) fun _ _ z => False.elim z
    cases f with
    | next => obtain ⟨σ', H', J, q⟩ := q; exact goes_ok (X := X) (Inv.unsuite ok J) hN hi hl fun s6 J6 => ⟨_, _, J6, q⟩
    | brk => obtain ⟨σ', H', J, q⟩ := q; exact goes_ok (X := X) (Inv.unsuite ok J) hN hi hl fun s6 J6 => ⟨_, _, J6, q⟩
    | cont => obtain ⟨σ', H', J, q⟩ := q; exact goes_ok (X := X) (Inv.unsuite ok J) hN hi hl fun s6 J6 => ⟨_, _, J6, q⟩
    | ret u => obtain ⟨v, σ', H', J, r, q⟩ := q; exact goes_ok (X := X) (Inv.unsuite ok J) hN hi hl fun s6 J6 => ⟨v, _, _, J6, r, q⟩
  · have q' := SP.unbody q
    cases f with
    | next => exact wpAny_execs_nil q'
    | brk => exact q'
    | cont => exact q'
    | ret u => exact q'
theorem ps_try0 (hs : X.stack = X.env :: X.outer) (hf : X.env.frame = some X.env.locals) (hg : Gl X x) (hm : X.mg x = some cv) (hbx : PySem.W.kitCls X.K cv (.type "BaseException") = some true)
    (hb : ∀ (W : WX) (pn : List (Addr × Obj)) (E : Value → Shared → Prop), Lifts (X.body pn E) W → PassesOwn (model X.prog X.w) X.A X.env E → PSs (X.body pn E) body (tb W))
    (hsu : ∀ (ea : Addr) (pn : List (Addr × Obj)), PSs (X.suite ea pn) (b0 :: suite) ts) (hdb : (x == ("__debug__" : Str)) = false := by decide) :
    PS X (.Try body [.ExceptHandler (some (.Name x np)) none (b0 :: suite) hpos] [] [] pos) (tTry0 X.K cv tb ts) := by
  intro pins s σ H D I h
  have ok := I.ok
  refine wpAny_Try_except (wpAny_mono (hb _ (X.pn ++ pins) _ ?_ PassesOwn.looking [] s σ H D (I.body _) h) (fun f s1 q => ?_) fun _ _ y => y)
  · intro pl σ1 H1 s1 ea c dd tb1 x1 hW
    obtain ⟨hk, hW⟩ := hW
    have x2 : XState X pins σ1 H1 s1 ea c dd tb1 := ⟨x1.inv.unbody, x1.fly, x1.fe.body, fun T z => (x1.ft T z).body⟩
    refine look_core hs hf x2 fun h' T I2 fl fe fT => ?_
    have I3 := I2.suite ea
    refine wpAny_handleBy_cons (codeAny_handlers_test (ld_glob (X := X.suite ea (X.pn ++ pins)) I3 hg hm ?_ hdb)) (by intro z; cases z)
    refine match_core I3.kIn fl.1 hk hbx (codeAny_handlers_suite ?_)
    refine flight_core (T := T) (fl := .none) ⟨fl.1, fl.2 T rfl⟩ fun h3 k3 fl3 => ?_
    have I4 : Inv X pins σ1 H1 { s1 with heap := h3 } := Inv.turned (s := { s1 with heap := h' }) (h' := h3) (t' := s1.toks) (it := T) I2 (fun b o hb e => k3 b o hb e) fT.1 fT.2.1 fT.2.2.2.1 fT.2.2.2.2.1 fT.2.2.2.2.2
    refine wpAny_mono (hsu ea (X.pn ++ pins) [] _ _ _ _ (I4.suite ea) hW) (fun f s5 q => ?_) fun _ _ z => False.elim z
    cases f with
    | next => obtain ⟨σ', H', J, q⟩ := q; exact ⟨_, _, Inv.unsuite ok J, q⟩
    | brk => obtain ⟨σ', H', J, q⟩ := q; exact ⟨_, _, Inv.unsuite ok J, q⟩
    | cont => obtain ⟨σ', H', J, q⟩ := q; exact ⟨_, _, Inv.unsuite ok J, q⟩
    | ret u => obtain ⟨v, σ', H', J, r, q⟩ := q; exact ⟨v, _, _, Inv.unsuite ok J, r, q⟩
  · have q' := SP.unbody q
    cases f with
    | next => exact wpAny_execs_nil q'
    | brk => exact q'
    | cont => exact q'
    | ret u => exact q'
end
end L2

namespace L2
open PySem PySem.W PyProof.Rows

/-! ### sorting by asking, where no two keys are equal -/
section
variable {cmp : Nat → Nat → (Bool → Shared → Prop) → Shared → Prop} {r : Nat → Int} {n : Nat} {p : Array Nat} {s : Shared}
/-- the key of what stands at k -/
def rk (r : Nat → Int) (p : Array Nat) (k : Nat) : Int := r (p.getD k 0)
def Mixed (n : Nat) (p : Array Nat) : Prop := p.Perm (List.range n).toArray
def Rising (r : Nat → Int) (p : Array Nat) (m : Nat) : Prop := ∀ i j, i < j → j < m → rk r p i < rk r p j
theorem Mixed.size (g : Mixed n p) : p.size = n := by
  have := g.size_eq
  simpa using this
theorem Mixed.lt (g : Mixed n p) {k : Nat} (hk : k < n) : p.getD k 0 < n := by
  have hs := g.size
  have hm : p[k]'(by omega) ∈ p := Array.getElem_mem _
  have := (g.mem_iff).mp hm
  simp only [Array.getD, show k < p.size by omega, dif_pos]
  simpa using this
theorem Mixed.ne (g : Mixed n p) {i j : Nat} (hi : i < n) (hj : j < n) (h : i ≠ j) : p.getD i 0 ≠ p.getD j 0 := by
  have hs := g.size
  have nd : p.toList.Nodup := (Array.perm_iff_toList_perm.mp g).nodup_iff.mpr (by simpa using List.nodup_range)
  intro e
  simp only [Array.getD, show i < p.size by omega, show j < p.size by omega, dif_pos] at e
  have e' : p.toList[i]'(by simpa using (by omega : i < p.size)) = p.toList[j]'(by simpa using (by omega : j < p.size)) := by simpa using e
  rcases Nat.lt_or_gt_of_ne h with q | q
  · exact List.pairwise_iff_getElem.mp nd i j _ _ q e'
  · exact List.pairwise_iff_getElem.mp nd j i _ _ q e'.symm
variable (hr : ∀ i j, i < n → j < n → r i = r j → i = j) (hc : ∀ i j (C : Bool → Shared → Prop), i < n → j < n → i ≠ j → C (decide (r i < r j)) s → cmp i j C s)
include hr hc
theorem rk_ne (g : Mixed n p) {i j : Nat} (hi : i < n) (hj : j < n) (h : i ≠ j) : rk r p i ≠ rk r p j := fun e => g.ne hi hj h (hr _ _ (g.lt hi) (g.lt hj) e)
theorem asc_wp (g : Mixed n p) {Q : Nat → Shared → Prop} : ∀ f m, 1 ≤ m → m + f ≤ n → Rising r p m → (∀ m', m ≤ m' → m' ≤ m + f → Rising r p m' → (m' < m + f → rk r p m' < rk r p (m' - 1)) → Q m' s) → (kas_asc p f m).kasWp cmp Q s
  | 0, m, h1, h2, ri, k => k m (Nat.le_refl _) (Nat.le_refl _) ri fun h => absurd h (Nat.lt_irrefl _)
  | f + 1, m, h1, h2, ri, k => by
    refine hc _ _ _ (g.lt (by omega)) (g.lt (by omega)) (g.ne (by omega) (by omega) (by omega)) ?_
    by_cases hb : r (p.getD m 0) < r (p.getD (m - 1) 0)
    · simp only [hb, decide_true, if_true]
      exact k m (Nat.le_refl _) (by omega) ri fun _ => hb
    · simp only [hb, decide_false, Bool.false_eq_true, if_false]
      refine asc_wp g f (m + 1) (by omega) (by omega) (fun i j hij hj => ?_) fun m' a b c d => k m' (by omega) (by omega) c fun h => d (by omega)
      by_cases e : j = m
      · subst e
        have h3 : rk r p (j - 1) < rk r p j := by
          have := rk_ne hr hc g (i := j - 1) (j := j) (by omega) (by omega) (by omega)
          unfold rk at this ⊢
          omega
        by_cases e2 : i = j - 1
        · subst e2; exact h3
        · have := ri i (j - 1) (by omega) (by omega)
          omega
      · exact ri i j hij (by omega)
theorem desc_wp (g : Mixed n p) {Q : Array Nat × Nat × Nat → Shared → Prop} : ∀ f m, 1 ≤ m → m + f ≤ n → (∀ i j, i < j → j < m → rk r p j < rk r p i) →
    (∀ m', m ≤ m' → m' ≤ m + f → (∀ i j, i < j → j < m' → rk r p j < rk r p i) → Q (p, m', 0) s) → (kas_desc f p m 0).kasWp cmp Q s
  | 0, m, h1, h2, ri, k => k m (Nat.le_refl _) (Nat.le_refl _) ri
  | f + 1, m, h1, h2, ri, k => by
    refine hc _ _ _ (g.lt (by omega)) (g.lt (by omega)) (g.ne (by omega) (by omega) (by omega)) ?_
    by_cases hb : r (p.getD m 0) < r (p.getD (m - 1) 0)
    · simp only [hb, decide_true, if_true]
      rw [if_neg (by omega)]
      refine desc_wp g f (m + 1) (by omega) (by omega) (fun i j hij hj => ?_) fun m' a b c => k m' (by omega) (by omega) c
      by_cases e : j = m
      · subst e
        have h3 : rk r p j < rk r p (j - 1) := hb
        by_cases e2 : i = j - 1
        · subst e2; exact h3
        · have := ri i (j - 1) (by omega) (by omega)
          omega
      · exact ri i j hij (by omega)
    · simp only [hb, decide_false, Bool.false_eq_true, if_false]
      refine hc _ _ _ (g.lt (by omega)) (g.lt (by omega)) (g.ne (by omega) (by omega) (by omega)) ?_
      have h3 : r (p.getD (m - 1) 0) < r (p.getD m 0) := by
        have := rk_ne hr hc g (i := m - 1) (j := m) (by omega) (by omega) (by omega)
        unfold rk at this
        omega
      simp only [h3, decide_true, if_true]
      exact k m (Nat.le_refl _) (by omega) ri
theorem rev_rk (g : Mixed n p) {m k : Nat} (hm : m ≤ n) (hk : k < m) : rk r (kas_rev p 0 m) k = rk r p (m - 1 - k) := by
  have hs := g.size
  unfold rk kas_rev
  rw [Array.getD_eq_getD_getElem?, getElem?_mirror_all (by omega), if_pos ⟨Nat.zero_le _, hk⟩, Array.getD_eq_getD_getElem?]
  congr 3
  omega
theorem tail3_wp (g : Mixed n p) {m : Nat} (h1 : 1 ≤ m) (hm : m ≤ n) (ri : ∀ i j, i < j → j < m → rk r p j < rk r p i) {Q : Nat × Array Nat → Shared → Prop}
    (k : ∀ m' p', 1 ≤ m' → m' ≤ n → Mixed n p' → Rising r p' m' → Q (m', p') s) : (kas_tail3 m n p).kasWp cmp Q s := by
  unfold kas_tail3
  rw [KasT.kasWp_bind]
  have g' : Mixed n (kas_rev p 0 m) := (mirror_perm _ _ _ _).trans g
  refine asc_wp hr hc g' _ _ h1 (by omega) (fun i j hij hj => ?_) fun m' a b c _ => k m' _ (by omega) (by omega) g' c
  rw [rev_rk hr hc g hm (by omega), rev_rk hr hc g hm hj]
  exact ri _ _ (by omega) (by omega)
theorem count_wp (g : Mixed n p) (h1 : 1 ≤ n) {Q : Nat × Array Nat → Shared → Prop} (k : ∀ m' p', 1 ≤ m' → m' ≤ n → Mixed n p' → Rising r p' m' → Q (m', p') s) : (kas_count n p).kasWp cmp Q s := by
  unfold kas_count
  rw [KasT.kasWp_bind]
  refine asc_wp hr hc g _ _ (Nat.le_refl _) (by omega) (fun i j hij hj => absurd hij (by omega)) fun m a b ri hb => ?_
  by_cases e : m = n
  · rw [if_pos (by simpa using e)]
    exact k m p (by omega) (by omega) g ri
  · rw [if_neg (by simpa using e)]
    by_cases h2 : m > 1
    · rw [if_pos h2]
      refine hc _ _ _ (g.lt (by omega)) (g.lt (by omega)) (g.ne (by omega) (by omega) (by omega)) ?_
      have h3 := ri 0 (m - 1) (by omega) (by omega)
      unfold rk at h3
      simp only [h3, decide_true, if_true]
      exact k m p (by omega) (by omega) g ri
    · rw [if_neg h2]
      have hm : m = 1 := by omega
      subst hm
      have h3 := hb (by omega)
      unfold kas_descPart
      rw [KasT.kasWp_bind]
      refine desc_wp hr hc g _ _ (by omega) (by omega) (fun i j hij hj => ?_) fun m' a b ri' => ?_
      · have : i = 0 ∧ j = 1 := by omega
        rw [this.1, this.2]
        exact h3
      · simp only [Nat.lt_irrefl, gt_iff_lt, if_false]
        exact tail3_wp hr hc g (by omega) (by omega) ri' k
theorem place_wp (g : Mixed n p) {k : Nat} (hk : k < n) (ri : Rising r p k) {Q : Nat → Shared → Prop} : ∀ f l u, l ≤ u → u ≤ k → u - l ≤ f → (∀ i, i < l → rk r p i < rk r p k) → (∀ i, u ≤ i → i < k → rk r p k < rk r p i) →
    (∀ l, l ≤ k → (∀ i, i < l → rk r p i < rk r p k) → (∀ i, l ≤ i → i < k → rk r p k < rk r p i) → Q l s) → (kas_place p k f l u).kasWp cmp Q s
  | 0, l, u, h1, h2, h3, a, b, q => q l (by omega) a fun i hi hk => b i (by omega) hk
  | f + 1, l, u, h1, h2, h3, a, b, q => by
    unfold kas_place
    by_cases e : l ≥ u
    · rw [if_pos e]
      exact q l (by omega) a fun i hi hk => b i (by omega) hk
    · rw [if_neg e]
      refine hc _ _ _ (g.lt hk) (g.lt (by omega)) (g.ne hk (by omega) (by omega)) ?_
      have hm : (l + u) / 2 < u := by omega
      have hl : l ≤ (l + u) / 2 := by omega
      by_cases hb : r (p.getD k 0) < r (p.getD ((l + u) / 2) 0)
      · simp only [hb, decide_true, if_true]
        refine place_wp g hk ri f l ((l + u) / 2) hl (by omega) (by omega) a (fun i hi hk' => ?_) q
        by_cases e2 : i = (l + u) / 2
        · subst e2; exact hb
        · have := ri ((l + u) / 2) i (by omega) hk'
          have hb' : rk r p k < rk r p ((l + u) / 2) := hb
          omega
      · simp only [hb, decide_false, Bool.false_eq_true, if_false]
        have hb' : rk r p ((l + u) / 2) < rk r p k := by
          have := rk_ne hr hc g (i := (l + u) / 2) (j := k) (by omega) hk (by omega)
          unfold rk at this ⊢
          omega
        refine place_wp g hk ri f ((l + u) / 2 + 1) u (by omega) h2 (by omega) (fun i hi => ?_) b q
        by_cases e2 : i = (l + u) / 2
        · subst e2; exact hb'
        · have := ri i ((l + u) / 2) (by omega) (by omega)
          omega
theorem bub_rk (g : Mixed n p) {k l : Nat} (hk : k < n) (hl : l ≤ k) (j : Nat) : rk r (bubble p k (k - l)) j = if j = l then rk r p k else if l < j ∧ j ≤ k then rk r p (j - 1) else rk r p j := by
  have hs := g.size
  unfold rk
  rw [Array.getD_eq_getD_getElem?, getElem?_bubble (by omega) _ (by omega), show k - (k - l) = l by omega]
  simp only [Array.getD_eq_getD_getElem?]
  repeat' split
  all_goals first | rfl | (exfalso; omega)
theorem bin_wp {Q : Array Nat → Shared → Prop} (q : ∀ p', Mixed n p' → Rising r p' n → Q p' s) : ∀ f k (p : Array Nat), Mixed n p → k + f = n → Rising r p k → (kas_bin f p k).kasWp cmp Q s
  | 0, k, p, g, h, ri => q p g (by have : k = n := by omega
                                   rwa [this] at ri)
  | f + 1, k, p, g, h, ri => by
    unfold kas_bin
    rw [KasT.kasWp_bind]
    refine place_wp hr hc g (by omega) ri k 0 k (Nat.zero_le _) (Nat.le_refl _) (by omega) (fun i hi => absurd hi (by omega)) (fun i hi hk => absurd hk (by omega)) fun l hl a b => ?_
    refine bin_wp q f (k + 1) _ ((bubble_perm _ _ _).trans g) (by omega) fun i j hij hj => ?_
    rw [bub_rk hr hc g (by omega) hl, bub_rk hr hc g (by omega) hl]
    by_cases e1 : i = l
    · rw [if_pos e1, if_neg (by omega), if_pos (by omega)]
      exact b _ (by omega) (by omega)
    · rw [if_neg e1]
      by_cases e2 : j = l
      · rw [if_pos e2, if_neg (by omega)]
        exact a i (by omega)
      · rw [if_neg e2]
        by_cases h3 : l < i ∧ i ≤ k
        · rw [if_pos h3, if_pos (by omega)]
          exact ri _ _ (by omega) (by omega)
        · rw [if_neg h3]
          by_cases h4 : l < j ∧ j ≤ k
          · rw [if_pos h4]
            by_cases e5 : i = j - 1
            · omega
            · exact ri _ _ (by omega) (by omega)
          · rw [if_neg h4]
            exact ri _ _ hij (by omega)
theorem sort_wp (h1 : 1 ≤ n) {Q : Array Nat → Shared → Prop} (q : ∀ p', Mixed n p' → Rising r p' n → Q p' s) : (kas_sort n).kasWp cmp Q s := by
  unfold kas_sort
  rw [KasT.kasWp_bind]
  refine count_wp hr hc (Array.Perm.refl _) h1 fun m p' a b g ri => ?_
  dsimp only
  by_cases h : m < n
  · rw [if_pos h]
    exact bin_wp hr hc q _ _ _ g (by omega) (by rw [show max m 1 = m by omega]; exact ri)
  · rw [if_neg h]
    have : m = n := by omega
    rw [this] at ri
    exact q p' g ri
end
end L2

namespace L2
open PySem PySem.Spec PySem.W PyProof.Rows

theorem ns_uniq {h : Heap} {a : Addr} {m m' : Str → Option Value} (x : h.Ns a m) (y : h.Ns a m') : m = m' := by
  obtain ⟨o, es, ep, e, d, _, f⟩ := x
  obtain ⟨o', es', ep', e', d', _, f'⟩ := y
  rw [e] at e'; cases e'
  rw [d] at d'; cases d'
  funext n
  exact (f n).symm.trans (f' n)

section
variable {X : Cx} {pins : List (Addr × Obj)} {σ : St} {H : Hp} {s : Shared}
/-- all stays but the frame's object, whose names stay -/
theorem Inv.regrown {h' : Heap} {m : Str → Option Value} {t' : Nat} {d' : Drawn} (I : Inv X pins σ H s) (h1 : s.heap.Ns X.env.locals m) (h2 : h'.Ns X.env.locals m) (k : ∀ b o, b ≠ X.env.locals → s.heap.get? b = some o → h'.get? b = some o) :
    Inv X pins σ H { s with heap := h', drawn := d', toks := t' } := by
  refine I.step (g' := s.gens) (d' := d') (ch := []) (fun _ z => nomatch z) (fun b o hL _ _ e _ => k b o hL e) (fun b o hL _ _ e _ => ⟨o.slots, k b o hL e⟩) (fun _ _ _ _ n => n) (fun b o _ e => ?_) (fun _ _ e => e) (fun _ _ _ e => e)
    (fun b ps e => ⟨#[], by rw [e]; simp⟩) (fun m' hm => by rw [ns_uniq hm h1]; exact h2) (fun b u e => ?_) I.bare
  · by_cases z : b = X.env.locals
    · obtain ⟨o', _, _, q, _⟩ := h2
      exact ⟨o', by rw [z]; exact q⟩
    · exact ⟨o, k b o z e⟩
  · refine (I.hok b u e).stay (fun d v hd q => k d v (fun z => ?_) q) (fun _ q => q) fun _ _ q => q
    have fr := I.free
    rw [← z] at fr
    rcases hd with y | y
    · rw [y, e] at fr; cases fr
    · rw [y] at fr; cases fr
/-- the keys may be asked: r tells their order -/
structure Srt (P : Program) (w : World) (L : Addr) (h : Heap) (vs : List Value) (r : Nat → Int) : Prop where
  small : vs.length < 64
  inj : ∀ i j, i < vs.length → j < vs.length → r i = r j → i = j
  ask : 2 ≤ vs.length → ∃ κ, ∀ (A : Around) (s' : Shared), (∀ b o, b ≠ L → h.get? b = some o → s'.heap.get? b = some o) →
    (∀ Q : SortKind → Shared → Prop, Q κ s' → wpAny (model P w) A (keyKind' vs.toArray) Q (fun _ _ => False) s') ∧
    ∀ i j (C : Bool → Shared → Prop), i < vs.length → j < vs.length → i ≠ j → C (decide (r i < r j)) s' → kas_ask P w A κ vs i j C s'
theorem kas_ask_mono {P : Program} {w : World} {A : Around} {κ : SortKind} {vs : List Value} {i j : Nat} {C C' : Bool → Shared → Prop} {s : Shared} (h : kas_ask P w A κ vs i j C s) (hc : ∀ b s, C b s → C' b s) : kas_ask P w A κ vs i j C' s :=
  wpAny_mono h hc fun _ _ x => x
/-- the row that sorting makes -/
def SortOf (ys : List V) (r : Nat → Int) (zs : List V) : Prop := ∃ p : Array Nat, Mixed ys.length p ∧ Rising r p ys.length ∧ zs = p.toList.map fun i => ys.getD i .non
theorem sort_short {P : Program} {w : World} {A : Around} {E : Value → Shared → Prop} {a : Addr} {vs : List Value} {n : Nat} {R : PySem.Fin → Shared → Prop} (ho : s.heap.get? a = some (seqObj "list" vs.toArray n)) (h1 : vs.length < 2)
    (k : ∀ h' e, (∀ b o, b ≠ a → s.heap.get? b = some o → h'.get? b = some o) → h'.get? a = some (seqObj "list" vs.toArray e) → R (.done (.ret .none)) { s with heap := h' }) :
    wpAny (model P w) A (Builtin.«list.sort» ⟨[.ref a], []⟩) R E s := by
  have la := Heap.lt_size ho
  have hn : vs.toArray.size < 2 := by rw [List.size_toArray]; exact h1
  have zs : ∀ m : Nat, m < 2 → m ≤ sizeLine := fun m hm => by rw [sizeLine_eq]; omega
  obtain ⟨e1, q1⟩ : ∃ e1, (s.heap.update a (Obj.mapSeq fun _ => (#[] : Array Value))).get? a = some (seqObj "list" #[] e1) := ⟨_, get?_update_seq ho fun _ => #[]⟩
  rw [list_sort_plain]
  refine wpAny_bind (listItems_at ho rfl (wpAny_bind (listUpdate_at ho rfl (wpAny_bind (seqEpoch_at q1 rfl (wpAny_bind (wpAny_newTuple (wpAny_bind (wpAny_newList (wpAny_holding ?_) (Nat.zero_le _))) (zs _ (by simpa using h1)))))) (zs _ (by simpa using h1)) (Nat.zero_le _))))
  have q3 := Heap.get?_push_of_some (seqObj "list" #[] 0) (Heap.get?_push_of_some (seqObj "tuple" vs.toArray 0) q1)
  dsimp only
  rw [if_pos hn, if_pos hn]
  refine wpAny_bind (wpAny_pure ?_)
  rw [StateT.run_pure]
  refine wpAny_bind (wpAny_pure ?_)
  dsimp only
  have eo : (arrOf (SortSt.mk' general' (vs.toArray.zip vs.toArray) #[] 7 none)).map (·.2) = vs.toArray := by
    show (vs.toArray.zip vs.toArray).map (·.2) = vs.toArray
    apply Array.toList_inj.mp
    rw [Array.toList_map, Array.toList_zip]
    show (vs.zip vs).map Prod.snd = vs
    rw [List.map_snd_zip (Nat.le_refl _)]
  rw [eo]
  refine wpAny_bind (seqEpoch_at q3 rfl (wpAny_bind (listUpdate_at q3 rfl ?_ (Nat.zero_le _) (Nat.le_trans (zs _ (by simpa using h1)) (Nat.le_succ _)))))
  rw [if_neg (by simp)]
  refine wpAny_pure (k _ _ (fun b o hb e => ?_) (get?_update_seq q3 fun _ => vs.toArray))
  rw [Heap.get?_update_ne _ _ _ _ hb]
  exact Heap.get?_push_of_some _ (Heap.get?_push_of_some _ (by rw [Heap.get?_update_ne _ _ _ _ hb]; exact e))

theorem vals_pick {ys : List V} {vs : List Value} (rv : Vals ys vs) : ∀ l : List Nat, Vals (l.map fun i => ys.getD i .non) (l.map fun i => vs.getD i Value.none)
  | [] => .nil
  | i :: l => by
    refine .cons ?_ (vals_pick rv l)
    dsimp only
    rw [List.getD_eq_getElem?_getD, List.getD_eq_getElem?_getD]
    cases e : ys[i]? with
    | none => rw [rv.none_of e]; rfl
    | some y => obtain ⟨u, e', q⟩ := rv.get e; rw [e']; exact q
theorem pick_range (ys : List V) : (List.range ys.length).map (fun i => ys.getD i .non) = ys := by
  apply List.ext_getElem
  · simp
  · intro i h1 h2
    simp [h2]
theorem mixed_len {n : Nat} {p : Array Nat} (g : Mixed n p) : p.toList.length = n := by rw [Array.length_toList, g.size]
/-- sorted(x): x's items, whatever it is, are told by hcol -/
theorem sorted_wp {x : Value} {Q : VK} (hcol : wpAny (model X.prog X.w) X.A.in1 (collect x) (fun vs s1 => ∃ ys r, Inv X pins σ H s1 ∧ Vals ys vs ∧ Srt X.prog X.w X.env.locals s1.heap vs r ∧ ∀ l zs, H l = none → SortOf ys r zs → Q (.ref l) (upd H l (.lst zs))) X.xe s) :
    wpAny (model X.prog X.w) X.A (call (.builtin "sorted") [x]) (EP X pins σ Q) X.xe s := by
  refine Calls.call_function_entry kind_sorted plain_sorted entry_sorted (args_sorted1 _) ?_
  unfold Builtin.«sorted»
  refine wpAny_bind (wpAny_pure (a := ()) (wpAny_bind (wpAny_mono hcol (fun vs s1 hq => ?_) fun _ _ z => z)))
  obtain ⟨ys, r, I, rv, S, q⟩ := hq
  have hlen := rv.length
  have line : vs.length ≤ sizeLine := by have := S.small; rw [sizeLine_eq]; omega
  refine wpAny_bind (wpAny_newList ?_ line)
  obtain ⟨hp1, g, d, tk, os⟩ := s1
  dsimp only at I S ⊢
  have q0 : (hp1.push (seqObj "list" vs.toArray 0)).get? hp1.objs.size = some (seqObj "list" vs.toArray 0) := Heap.get?_push_size _ rfl
  obtain ⟨m, F0⟩ := I.fr
  have hL : X.env.locals < hp1.objs.size := I.lt
  have hb : X.base.objs.size ≤ hp1.objs.size := Nat.le_trans I.ok.bsz I.sz
  have fin : ∀ (h2 : Heap) (c : Nat) (zs : List V) (out : List Value), h2.Ns X.env.locals m → (∀ b o, b ≠ X.env.locals → hp1.get? b = some o → h2.get? b = some o) → h2.get? hp1.objs.size = some (seqObj "list" out.toArray c) →
      Vals zs out → zs.length ≤ sizeLine → SortOf ys r zs → EP X pins σ Q (.ref hp1.objs.size) ⟨h2, g, d, tk, os⟩ := fun h2 c zs out n2 k2 e2 v2 l2 so => by
    have hn : H hp1.objs.size = none := I.hok.fresh (Nat.le_refl _)
    have f := I.fpOk (b := hp1.objs.size) (Nat.le_refl _) hn
    have J := Inv.regrown (s := ⟨hp1, g, d, tk, os⟩) (t' := tk) (d' := d) I F0.ns n2 k2
    exact ⟨.ref hp1.objs.size, _, Inv.adopt (o := .lst zs) J hn I.sz f.2.1 f.2.2.2.2.1 f.2.2.2.2.2 ⟨l2, out, c, v2, e2⟩, rfl, q _ _ hn so⟩
  refine wpAny_bind (wpAny_holding (wpAny_call_entry slot_list_sort ⟨_, q0, rfl⟩ entry_list_sort ?_ (args_list_sort _)))
  have kp : ∀ b o, hp1.get? b = some o → (hp1.push (seqObj "list" vs.toArray 0)).get? b = some o := fun b o e => Heap.get?_push_of_some _ e
  by_cases h2 : vs.length < 2
  · refine sort_short (s := ⟨hp1.push (seqObj "list" vs.toArray 0), g, d, tk, os⟩) q0 h2 fun h' e k' e' => ⟨_, rfl, wpAny_pure ⟨_, rfl, ?_⟩⟩
    have ne : ∀ b o, hp1.get? b = some o → b ≠ hp1.objs.size := fun b o z => Nat.ne_of_lt (Heap.lt_size z)
    refine fin h' e ys vs ?_ (fun b o _ z => k' b o (ne b o z) (kp b o z)) e' rv (by omega) ⟨(List.range ys.length).toArray, Array.Perm.refl _, fun i j hij hj => absurd hij (by omega), (pick_range ys).symm⟩
    obtain ⟨o, es, ep, z, rr⟩ := F0.ns
    exact ⟨o, es, ep, k' _ _ (ne _ _ z) (kp _ _ z), rr⟩
  · have h3 : 2 ≤ vs.length := by omega
    refine kat_list_sort (s := ⟨hp1.push (seqObj "list" vs.toArray 0), g, d, tk, os⟩) (h₀ := X.base) (L := X.env.locals) (m := m) (news := rest X.base (hp1.push (seqObj "list" vs.toArray 0)) X.env.locals hp1.objs.size) (F0.push _)
      (fun p hp => news_all p (List.mem_filter.mp hp).1) q0 (Nat.ne_of_gt hL) (Heap.get?_none_of_le hb) rest_ne h3 S.small fun e1 h' F1 N1 => ?_
    have keep : ∀ h3 : Heap, Fr X.base X.env.locals h3 m → News X.base X.env.locals h3 (rest X.base (hp1.push (seqObj "list" vs.toArray 0)) X.env.locals hp1.objs.size) → ∀ b o, b ≠ X.env.locals → hp1.get? b = some o → h3.get? b = some o := fun h3 F3 N3 b o hb z =>
      kept_of_news (fun b o z => kp b o (I.bk b o z)) F3 N3 b o hb (Nat.ne_of_lt (Heap.lt_size z)) (kp b o z)
    obtain ⟨κ, hκ⟩ := S.ask h3
    have hk := hκ X.A.in1.in1 ⟨h', g, d, tk, os⟩ (keep h' F1 fun p hp => N1 p (.tail _ hp))
    refine hk.1 _ (sort_wp (r := r) S.inj (fun i j C hi hj ne c => hk.2 i j C hi hj ne c) (by omega) fun p' gp ri => ?_)
    refine KasFin.intro F1 N1 (.head rest_ne) fun h4 c F4 N4 => ⟨_, rfl, wpAny_pure ⟨_, rfl, ?_⟩⟩
    refine fin h4 c (p'.toList.map fun i => ys.getD i .non) _ F4.ns (keep h4 F4 fun p hp => N4 p (.tail _ hp)) (N4 _ (.head _)).1 (vals_pick rv _) ?_ ⟨p', by rw [hlen]; exact gp, by rw [hlen]; exact ri, rfl⟩
    rw [List.length_map, mixed_len gp]
    exact line
end
end L2

namespace L2
open PySem PySem.Spec PySem.W PyProof.Rows

/-- the row in its order, by the pairs of key and thing -/
theorem sortOf_pairs {ps : List (Int × V)} {zs : List V} (h : SortOf (ps.map (·.2)) (fun i => (ps.map (·.1)).getD i 0) zs) : ∃ qs : List (Int × V), qs.Perm ps ∧ qs.Pairwise (fun a b => a.1 < b.1) ∧ zs = qs.map (·.2) := by
  obtain ⟨p, g, ri, rfl⟩ := h
  rw [List.length_map] at g ri
  have hlen := mixed_len g
  have gp := Array.perm_iff_toList_perm.mp g
  have er : (List.range ps.length).map (fun i => ps.getD i (0, .non)) = ps := by
    apply List.ext_getElem
    · simp
    · intro i h1 h2
      simp [h2]
  refine ⟨p.toList.map fun i => ps.getD i (0, .non), ?_, ?_, ?_⟩
  · have := gp.map fun i => ps.getD i (0, .non)
    simp only [List.toList_toArray] at this
    rw [er] at this
    exact this
  · rw [List.pairwise_iff_getElem]
    intro i j hi hj hij
    rw [List.length_map] at hi hj
    have := ri i j hij (by omega)
    unfold rk at this
    have hsz := g.size
    simp only [List.getElem_map, Array.getElem_toList]
    have e : ∀ k (hk : k < p.size), p.getD k 0 = p[k] := fun k hk => by simp [Array.getD, hk]
    rw [e i (by omega), e j (by omega)] at this
    have e2 : ∀ k, k < ps.length → (ps.map (·.1)).getD k 0 = (ps.getD k (0, .non)).1 := fun k hk => by simp [hk]
    have lt : ∀ k (hk : k < p.size), p[k] < ps.length := fun k hk => by
      have := g.lt (k := k) (by omega)
      rw [e k hk] at this
      exact this
    dsimp only at this
    rw [e2 _ (lt i (by omega)), e2 _ (lt j (by omega))] at this
    exact this
  · rw [List.map_map]
    refine List.map_congr_left fun i hi => ?_
    have hl : i < ps.length := by
      have := gp.mem_iff.mp hi
      simpa using this
    simp [hl]

section
variable {X : Cx}
theorem typeOf_int (M : Model) (h : Heap) (i : Int) (t : Tok) : Looks M h (typeOf (.int i t)) (.type "int") := Looks.of_pure rfl
/-- sorted(xs): tuples whose first things are ints, no two equal -/
def rSortT (K : PySem.W.Frag) : List V → Hp → VK → Prop := fun xs H Q => ∃ (p : Addr) (ps : List (Int × V)), xs = [.ref p] ∧ SqL K H p (ps.map (·.2)) ∧ ps.length < 64 ∧ (∀ q ∈ ps, ∃ a ys, q.2 = .ref a ∧ SqT K H a (.int q.1 :: ys)) ∧ (ps.map (·.1)).Nodup ∧
  ∀ l qs, H l = none → List.Perm qs ps → qs.Pairwise (fun a b => a.1 < b.1) → Q (.ref l) (upd H l (.lst (qs.map (·.2))))
theorem call_sortedT : CallR X (.builtin "sorted") (rSortT X.K) := by
  intro pins s σ H xs us Q I r h
  obtain ⟨p, ps, rfl, hl, h64, ht, nd, q⟩ := h
  obtain ⟨u, rfl, rx⟩ := vals1 r
  cases rx
  obtain ⟨its, rv, pl, hz⟩ := I.list hl
  have hlen := rv.length
  rw [List.length_map] at hlen
  refine sorted_wp (H := H) (collect_list pl.isList ?_ (by rw [sizeLine_eq]; omega))
  have kp : ∀ b o, s.heap.get? b = some o → ((s.heap.push (seqObj "list" #[] 0)).update s.heap.objs.size (Obj.mapSeq (· ++ its.toArray))).get? b = some o := fun b o e => by
    rw [Heap.get?_update_ne _ _ _ _ (Nat.ne_of_lt (Heap.lt_size e))]
    exact Heap.get?_push_of_some _ e
  have tup : ∀ i, i < ps.length → ∃ a o vs n, its.getD i Value.none = .ref a ∧ s.heap.get? a = some o ∧ o.cls = .type "tuple" ∧ o.data = .seq vs n ∧ ∃ t rest, vs.toList = Value.int ((ps.map (·.1)).getD i 0) t :: rest := fun i hi => by
    obtain ⟨a, ys, e1, e2⟩ := ht _ (List.getElem_mem hi)
    obtain ⟨vs, rv2, ⟨o, eo, co, n, do_⟩, _⟩ := I.tuple e2
    obtain ⟨u, eu, ru⟩ := rv.get (i := i) (x := .ref a) (by simp [hi, e1])
    cases ru
    cases rv2 with
    | cons ra rr =>
      obtain ⟨t, rfl⟩ := ra
      exact ⟨a, o, _, n, by rw [List.getD_eq_getElem?_getD, eu]; rfl, eo, co, do_, t, _, by simp [hi]; rfl⟩
  refine ⟨ps.map (·.2), fun i => (ps.map (·.1)).getD i 0, I.kept kp, rv, ⟨by omega, fun i j hi hj e => ?_, fun h2 => ?_⟩, fun l zs hn so => ?_⟩
  · have hi' : i < ps.length := by omega
    have hj' : j < ps.length := by omega
    have e' : (ps.map (·.1))[i]'(by simpa using hi') = (ps.map (·.1))[j]'(by simpa using hj') := by simpa [hi', hj'] using e
    rcases Nat.lt_trichotomy i j with z | z | z
    · exact absurd e' (List.pairwise_iff_getElem.mp nd i j _ _ z)
    · exact z
    · exact absurd e'.symm (List.pairwise_iff_getElem.mp nd j i _ _ z)
  · refine ⟨tuples' true, fun A s' k => ?_⟩
    have nL : ∀ b o, s.heap.get? b = some o → o.cls = .type "tuple" → (∃ vs n, o.data = .seq vs n) → b ≠ X.env.locals := fun b o e _ d z => by
      obtain ⟨m, F⟩ := I.fr
      obtain ⟨o', es, ep, e', d', _⟩ := F.ns
      rw [z, e'] at e; cases e
      obtain ⟨vs, n, d⟩ := d
      rw [d'] at d; cases d
    have at' : ∀ i, i < ps.length → ∃ a o vs n, its.getD i Value.none = .ref a ∧ s'.heap.get? a = some o ∧ o.cls = .type "tuple" ∧ o.data = .seq vs n ∧ ∃ t rest, vs.toList = Value.int ((ps.map (·.1)).getD i 0) t :: rest := fun i hi => by
      obtain ⟨a, o, vs, n, e1, e2, e3, e4, e5⟩ := tup i hi
      exact ⟨a, o, vs, n, e1, k _ _ (nL a o e2 e3 ⟨vs, n, e4⟩) (kp _ _ e2), e3, e4, e5⟩
    constructor
    · intro Q' hQ
      have kt : ∀ m, m ≤ ps.length → ∃ fs : List Value, fs.length = m ∧ KatTups s'.heap (its.drop (ps.length - m)) fs ∧ ∀ v ∈ fs, ∃ i t, v = Value.int i t := fun m => by
        induction m with
        | zero =>
          intro _
          refine ⟨[], rfl, ?_, fun v hv => nomatch hv⟩
          rw [List.drop_of_length_le (by omega)]
          exact .nil
        | succ m ih =>
          intro hm
          obtain ⟨fs, h1, h2, h3⟩ := ih (by omega)
          obtain ⟨a, o, vs, n, e1, e2, e3, e4, t, rest, e5⟩ := at' (ps.length - (m + 1)) (by omega)
          have hd : its.drop (ps.length - (m + 1)) = .ref a :: its.drop (ps.length - m) := by
            rw [List.drop_eq_getElem_cons (by omega), show ps.length - (m + 1) + 1 = ps.length - m by omega]
            congr 1
            rw [← e1]
            simp [show ps.length - (m + 1) < its.length by omega]
          rw [hd]
          refine ⟨Value.int ((ps.map (·.1)).getD (ps.length - (m + 1)) 0) t :: fs, by rw [List.length_cons, h1], .cons e2 e3 e4 ?_ h2, fun v hv => ?_⟩
          · have : vs.toList[0]? = some (Value.int ((ps.map (·.1)).getD (ps.length - (m + 1)) 0) t) := by rw [e5]; rfl
            rw [Array.getElem?_toList] at this
            exact this
          · rcases List.mem_cons.mp hv with z | z
            · exact ⟨_, _, z⟩
            · exact h3 v z
      obtain ⟨fs, h1, h2, h3⟩ := kt ps.length (Nat.le_refl _)
      rw [Nat.sub_self, List.drop_zero] at h2
      refine kat_kind (T := .type "int") h2 (by omega) (fun v hv => ?_) (by decide) (by rw [show (Value.type "int" != Value.type "tuple") = true by decide]; exact hQ)
      obtain ⟨i, t, e⟩ := h3 v hv
      rw [e]
      exact typeOf_int _ _ _ _
    · intro i j C hi hj ne c
      obtain ⟨a, o, vs, n, e1, e2, e3, e4, t, rest, e5⟩ := at' i (by omega)
      obtain ⟨a', o', vs', n', e1', e2', e3', e4', t', rest', e5'⟩ := at' j (by omega)
      unfold kas_ask
      rw [e1, e1']
      refine kat_lt e2 e4 e2' e4' ?_
      rw [e5, e5']
      refine kat_cons (wpAny_eqBool_int ?_)
      have hne : (ps.map (·.1)).getD i 0 ≠ (ps.map (·.1)).getD j 0 := fun e => by
        have hi' : i < ps.length := by omega
        have hj' : j < ps.length := by omega
        have e' : (ps.map (·.1))[i]'(by simpa using hi') = (ps.map (·.1))[j]'(by simpa using hj') := by simpa [hi', hj'] using e
        rcases Nat.lt_or_gt_of_ne ne with z | z
        · exact absurd e' (List.pairwise_iff_getElem.mp nd i j _ _ z)
        · exact absurd e'.symm (List.pairwise_iff_getElem.mp nd j i _ _ z)
      rw [show ((ps.map (·.1)).getD i 0 == (ps.map (·.1)).getD j 0) = false by simpa using hne]
      exact kat_no (oneLt_int c)
  · obtain ⟨qs, g, pw, rfl⟩ := sortOf_pairs so
    exact q l qs hn g pw
end
end L2

namespace L2
open PySem PySem.Spec PySem.W PyProof.Rows L3

/-! ### a lambda's body -/
abbrev lamEnv (X : Cx) (sc : Scope) (qual : Str) (f : Addr) (cd : Value) (L : Addr) : Env := envX qual sc L f cd (clOf X.env.cells sc.names [])
def cxL (X : Cx) (A : Around) (sc : Scope) (N : List Str) (qual : Str) (f : Addr) (cd : Value) (s : Shared) (H : Hp) : Cx :=
  { X with A := A.deeper (lamEnv X sc qual f cd s.heap.objs.size), N := N, s₀ := s, H₀ := H, env := lamEnv X sc qual f cd s.heap.objs.size, outer := X.stack, stack := lamEnv X sc qual f cd s.heap.objs.size :: X.stack,
           ex := [], fn := fun _ => false, calm := true, pn := [], xe := fun _ _ => False }
section
variable {X : Cx} {pins : List (Addr × Obj)} {σ : St} {H : Hp} {s : Shared} {sc : Scope} {N : List Str} {idx : List Nat} {A : Around} {f : Addr} {cd : Value} {qual px : Str} {k : Nat} {v : V} {u : Value}
theorem lam_inv (I : Inv X pins σ H s) (S : ScC X sc N idx) (hA : A.frames = some X.stack) (hh : A.handled = none) (hk : N[k]? = some px) (hl : sc.names.lookup px = some .local) (hi : idx.length ≤ k) (r : RelV v u) {h' : Heap} {m : Str → Option Value} {t : Nat}
    (hns : h'.Ns s.heap.objs.size m) (hm : m px = some u) (kp : ∀ b o, s.heap.get? b = some o → h'.get? b = some o) :
    Inv (cxL X A sc N qual f cd s H) [] ((capS idx N.length σ).set k (some v)) H { s with heap := h', toks := t } := by
  have cl_sub : ∀ x c, (clOf X.env.cells sc.names []).lookup x = some c → X.env.cells.lookup x = some c := clOf_sub sc.names [] (fun x c e => by cases e)
  have has : ∀ x, (x, NameKind.free) ∈ sc.names → ∃ c, (clOf X.env.cells sc.names []).lookup x = some c := fun x e => clOf_has sc.names [] x e (I.ok.has x (.inl (S.frees _ e rfl)))
  have noA : ∀ b : Addr, b ∉ (cxL X A sc N qual f cd s H).ex := fun b z => absurd (show b ∈ ([] : List Addr) from z) (by simp)
  refine ⟨⟨I.ok.mod, S.kind, rfl, rfl, Nat.le_refl _, fun x y c e1 e2 => I.ok.inj x y c (cl_sub x c e1) (cl_sub y c e2), fun x h => ?_, fun x c h => (by cases h), fun _ => hh, Around.frames_deeper hA, .inr ⟨rfl, rfl⟩, fun b z => absurd z (noA b), I.bs,
    Nat.le_trans I.ok.bsz I.sz, fun b _ _ => noA b, fun b z => absurd z (noA b), I.stack, I.stkFree⟩, rfl, I.bare, Un.kept kp, ⟨m, hns, fun j x w e1 e2 e3 => ?_⟩, fun x c e => ?_, I.hok.fresh (Nat.le_refl _), fun x c e => I.freeC x c (cl_sub x c e),
    fun p hp => absurd (show p ∈ ([] : List (Addr × Obj)) from hp) (by simp), I.hok.kept kp, by rw [List.length_set]; exact capS_len S.le⟩
  · have h2 : sc.names.lookup x = some .cell ∨ sc.names.lookup x = some .free := h
    rcases h2 with z | z
    · exact absurd rfl (S.nocell _ (PySem.mem_of_lookup z))
    · exact has x (PySem.mem_of_lookup z)
  · have e1' : N[j]? = some x := e1
    by_cases hj : j = k
    · subst hj
      rw [hk] at e1'; cases e1'
      have hlt : j < (capS idx N.length σ).length := by rw [capS_len S.le]; exact (List.getElem?_eq_some_iff.mp hk).1
      rw [List.getElem?_set_self hlt] at e2
      cases e2
      exact ⟨u, r, .inl ⟨hl, hm⟩⟩
    · rw [List.getElem?_set_ne (Ne.symm hj)] at e2
      obtain ⟨i, h1, h2⟩ := capS_get e2
      obtain ⟨h3, h4⟩ := S.cap j i x h1 e1'
      have hfr : (x, NameKind.free) ∈ sc.names := PySem.mem_of_lookup h4
      have hcell : X.env.scope.names.lookup x = some .cell := S.frees _ hfr rfl
      obtain ⟨m', hn', hl'⟩ := I.loc
      obtain ⟨u', r', l⟩ := hl' i x w h3 h2 (.inr (.inl hcell))
      refine ⟨u', r', .inr ⟨.inr h4, ?_⟩⟩
      rcases l with ⟨q, _⟩ | ⟨_, c, ec, z⟩
      · have q' : X.env.scope.names.lookup x = some .local := q
        rw [hcell] at q'; cases q'
      · obtain ⟨c', ec'⟩ := has x hfr
        have := cl_sub x c' ec'
        rw [ec] at this; cases this
        exact ⟨c, ec', z.keeps fun b o e => kp b o e⟩
  · obtain ⟨v', z⟩ := I.cell x c (cl_sub x c e)
    exact ⟨v', z.keeps fun b o e => kp b o e⟩
/-- the lambda is called with one thing -/
theorem lam_call {params : Arguments} {body : Expr} {pm ctv : Value} {c' : Addr} {te : TE} {Q : VK} {E : Value → Shared → Prop} (I : Inv X pins σ H s) (S : ScC X sc N idx) (hA : A.frames = some X.stack) (hh : A.handled = none) (hroom : A.depth < recursionLimit) (hk : N[k]? = some px)
    (hl : sc.names.lookup px = some .local) (hi : idx.length ≤ k) (r : RelV v u) (ho : s.heap.get? f = some (kla_obj "<lambda>" qual params body sc (clOf X.env.cells sc.names []) pm c' ctv)) (hcd : s.heap.CodeRec (.ref c') qual)
    (hbind : bindArgs (kla_fn "<lambda>" qual params body sc (clOf X.env.cells sc.names []) pm (.ref c') ctv) ⟨[u], []⟩ = pure [(px, u)]) (hco : sc.isCoroutine = false) (hgen : sc.isGenerator = false)
    (hb : PE (cxL X A sc N qual f (.ref c') s H) body te) (q : te ((capS idx N.length σ).set k (some v)) H Q) : wpAny (model X.prog X.w) A (call (.ref f) [u]) (EP X pins σ Q) E s := by
  refine wpAny_call (kla_callFunE hroom ho rfl hco hgen rfl hcd ?_)
  rw [hbind]
  refine wpAny_pure (wpAny_newFunctionEnv S.nocell (fun y hy => ?_) (fun h1 hns hsb => ⟨I.nolimit.fresh _ hsb, ?_⟩) S.kind)
  · have e : y = (px, u) := by simpa using hy
    rw [e]; exact hl
  · have kp : ∀ b o, s.heap.get? b = some o → h1.get? b = some o := fun b o e => hsb.extBut b o (Nat.ne_of_lt (Heap.lt_size e)) (Heap.get?_push_of_some _ e)
    have J := lam_inv (A := A) (f := f) (cd := .ref c') (qual := qual) (t := s.toks + [(px, u)].length) I S hA hh hk hl hi r hns (by simp [List.lookup_cons]) kp
    refine kla_codeExpr (wpAny_mono (hb [] _ _ H _ J q) (fun w s2 hw => ?_) fun _ _ z => False.elim z)
    obtain ⟨v2, H2, J2, r2, q2⟩ := hw
    exact ⟨v2, H2, I.call' (ch := []) (J2.os.trans rfl) J2.base J2.hok J2.bare (fun b z => absurd z (by simp)), r2, q2⟩
end
end L2

namespace L2
open PySem PySem.Spec PySem.W PyProof.Rows L3

/-! ### a lambda is made -/
/-- a code object, by its name -/
def cdO (c : Addr) (qual : Str) : HO := .ext fun h => h.CodeRec (.ref c) qual
theorem cdO_ok {P : Program} {w : World} {H : Hp} {h : Heap} {c : Addr} {qual : Str} (x : h.CodeRec (.ref c) qual) : ObjOk P w H h c (cdO c qual) := by
  obtain ⟨c0, o, vs, t, e, q, r⟩ := id x
  cases e
  refine ⟨x, ⟨o, q⟩, fun h1 h2 y k => ?_⟩
  obtain ⟨c1, o1, vs1, t1, e1, q1, r1⟩ := y
  cases e1
  exact ⟨c, o1, vs1, t1, rfl, k _ q1, r1⟩
/-- the table of a def's code in which one lambda stands: empty, or with that lambda's code -/
def LamAt (P : Addr) (pos : Pos) (qual : Str) (H : Hp) : Prop := ∃ ps, H P = some (.tbl ps) ∧ (ps = #[] ∨ ∃ c, ps = #[rawInt pos.line, rawInt pos.col, .ref c] ∧ H c = some (cdO c qual))
/-- all stays but at P -/
def SameP (P : Addr) (H H' : Hp) : Prop := ∀ b o, b ≠ P → H b = some o → H' b = some o
theorem SameP.refl {P : Addr} (H : Hp) : SameP P H H := fun _ _ _ e => e
theorem SameP.trans {P : Addr} {H H1 H2 : Hp} (a : SameP P H H1) (b : SameP P H1 H2) : SameP P H H2 := fun c o n e => b c o n (a c o n e)
/-- the module's builtins, as a def made here wants them -/
def BmAt (mg : Str → Option Value) (base : Heap) : Prop := ∃ bm ob, mg "__builtins__" = some (.ref bm) ∧ bm ≠ builtinsNs ∧ bm ≠ mainGlobals ∧ base.get? bm = some ob ∧ ob.cls = .type "module" ∧ ob.dict = some builtinsNs ∧ ob.data = .plain
section
variable {X : Cx} {pins : List (Addr × Obj)} {σ : St} {H : Hp} {s : Shared}
/-- a table grows -/
theorem Inv.grow {h' : Heap} {P : Addr} {ps more : Array Value} {t' : Nat} (I : Inv X pins σ H s) (hP : H P = some (.tbl ps)) (k : ∀ b o, b ≠ P → s.heap.get? b = some o → h'.get? b = some o) (e : h'.get? P = some (tabObj (ps ++ more))) :
    Inv X pins σ (upd H P (.tbl (ps ++ more))) { s with heap := h', toks := t' } := by
  have ne : ∀ b, H b = none → b ≠ P := fun b n z => by rw [z, hP] at n; cases n
  refine I.step (g' := s.gens) (d' := s.drawn) (ch := []) (fun _ z => nomatch z) (fun b o _ _ _ q n => k b o (ne b n) q) (fun b o _ _ _ q n => ⟨o.slots, k b o (ne b n) q⟩) (fun b o _ q n => by rw [upd_ne (ne b n)]; exact n) (fun b o _ q => ?_) (fun b xs q => ?_) (fun b o u q => ?_) (fun b qs q => ?_)
    (fun m hm => ?_) (fun b u q => ?_) I.bare
  · by_cases z : b = P
    · exact ⟨_, by rw [z]; exact e⟩
    · exact ⟨o, k b o z q⟩
  · rw [upd_ne (ne_of q hP (by intro z; cases z))]; exact q
  · rw [upd_ne (ne_of q hP (by intro z; cases z))]; exact q
  · by_cases z : b = P
    · subst z
      rw [hP] at q; cases q
      exact ⟨more, upd_same⟩
    · exact ⟨#[], by rw [upd_ne z, q]; simp⟩
  · obtain ⟨o, es, ep, q, r⟩ := hm
    exact ⟨o, es, ep, k _ o (ne _ I.free) q, r⟩
  · by_cases z : b = P
    · subst z
      rw [upd_same] at q; cases q
      exact e
    · rw [upd_ne z] at q
      refine (I.hok b u q).stay (fun d v hd y => k d v (fun w => ?_) y) (fun c y => ?_) fun c xs y => ?_
      · rcases hd with y1 | y1
        · exact z (y1.symm.trans w)
        · rw [w, hP] at y1; cases y1
      · rw [upd_ne (ne_of y hP (by intro z; cases z))]; exact y
      · rw [upd_ne (ne_of y hP (by intro z; cases z))]; exact y
theorem Inv.pin1 {f : Addr} {o : Obj} (I : Inv X pins σ H s) (g : FpOk X pins H f) (e : s.heap.get? f = some o) (n : ∀ v, o.data ≠ .cell v) : Inv X (pins ++ [(f, o)]) σ H s :=
  I.pins_of fun p hp => by
    rcases List.mem_append.mp hp with z | z
    · exact I.pin p (List.mem_append_right _ z)
    · have z' : p = (f, o) := by simpa using z
      rw [z']
      exact ⟨e, g.1, g.2.1, g.2.2.1, n⟩
theorem lam_eval {sc : Scope} {N : List Str} {idx : List Nat} {params : Arguments} {body : Expr} {pos : Pos} {c P : Addr} {E : Value → Shared → Prop} {R : Value → Shared → Prop} (I : Inv X pins σ H s) (S : ScC X sc N idx) (hcode : X.env.code = .ref c) (C : CodeHd X.base c P) (B : BmAt X.mg X.base)
    (hdef : defaultsOf params X.env = ([], [])) (h : LamAt P pos (X.env.qual ++ "<lambda>") H)
    (k : ∀ f c' H' pm ctv s', Inv X (pins ++ [(f, kla_obj "<lambda>" (X.env.qual ++ "<lambda>") params body sc (clOf X.env.cells sc.names []) pm c' ctv)]) σ H' s' → SameP P H H' → LamAt P pos (X.env.qual ++ "<lambda>") H' → H' c' = some (cdO c' (X.env.qual ++ "<lambda>")) → R (.ref f) s') :
    wpAny (model X.prog X.w) X.A (eval (.Lambda params body sc pos) X.env) R E s := by
  have hcl : closureFor sc X.env = pure (clOf X.env.cells sc.names []) := closure_of fun p hp e => I.ok.has p.1 (.inl (S.frees p hp e))
  obtain ⟨ps, hP, hps⟩ := h
  have oP : s.heap.get? P = some (tabObj ps) := I.hok P _ hP
  obtain ⟨bm, ob, b1, b2, b3, b4, b5, b6, b7⟩ := B
  have nP : ∀ b o, X.base.get? b = some o → b ≠ P := fun b o e z => by
    have := (I.bs b o e).2
    rw [z, hP] at this; cases this
  have hgl : s.heap.Ns mainGlobals X.mg := I.mod.glob.keeps I.bk
  have gP : mainGlobals ≠ P := by
    obtain ⟨o, es, ep, e, _⟩ := I.mod.glob
    exact nP _ _ e
  have hb : s.heap.BuiltinsAt X.mg P := ⟨bm, ob, b1, b2, b3, nP _ _ b4, I.bk _ _ b4, b5, b6, b7⟩
  have CC : CodeHd s.heap c P := C.keeps I.bk
  refine kla_eval hdef ?_
  rcases hps with rfl | ⟨c0, rfl, hc0⟩
  · refine kla_makeFunction (mg := X.mg) hcl I.ok.glob hgl hcode CC oP True.intro rfl gP hb fun c' ctv h' tk hx hge hlt hrec htb => ?_
    have I1 : Inv X pins σ (upd H P (.tbl (#[] ++ #[rawInt pos.line, rawInt pos.col, .ref c']))) { s with heap := h'.push (kla_obj "<lambda>" (X.env.qual ++ "<lambda>") params body sc (clOf X.env.cells sc.names []) ((X.mg "__name__").getD .none) c' ctv), toks := tk } :=
      I.grow hP (fun b o n e => Heap.get?_push_of_some _ (hx b o n e)) (Heap.get?_push_of_some _ htb)
    have ltP : P < s.heap.objs.size := Heap.lt_size oP
    have nc : H c' = none := I.hok.fresh hge
    have cP : c' ≠ P := Nat.ne_of_gt (Nat.lt_of_lt_of_le ltP hge)
    have nc1 : upd H P (.tbl (#[] ++ #[rawInt pos.line, rawInt pos.col, .ref c'])) c' = none := by rw [upd_ne cP]; exact nc
    have fc := I.fpOk (b := c') hge nc
    have I2 := Inv.adopt (o := cdO c' (X.env.qual ++ "<lambda>")) I1 nc1 (Nat.le_trans I.sz hge) fc.2.1 fc.2.2.2.2.1 fc.2.2.2.2.2 (cdO_ok (hrec.push _))
    have hgf : s.heap.objs.size ≤ h'.objs.size := Nat.le_trans hge (Nat.le_of_lt hlt)
    have fP : h'.objs.size ≠ P := Nat.ne_of_gt (Nat.lt_of_lt_of_le ltP hgf)
    have nf : upd (upd H P (.tbl (#[] ++ #[rawInt pos.line, rawInt pos.col, .ref c']))) c' (cdO c' (X.env.qual ++ "<lambda>")) h'.objs.size = none := by
      rw [upd_ne (Nat.ne_of_gt hlt), upd_ne fP]
      exact I.hok.fresh hgf
    have I3 := I2.pin1 (I.fpOk (b := h'.objs.size) hgf nf) (Heap.get?_push_size _ rfl) (fun v z => by cases z)
    refine k _ c' _ _ ctv _ I3 (fun b o n e => ?_) ⟨_, by rw [upd_ne (Ne.symm cP), upd_same], .inr ⟨c', by simp, upd_same⟩⟩ upd_same
    rw [upd_ne (ne_of_none e nc), upd_ne n]
    exact e
  · have hcr : s.heap.CodeRec (.ref c0) (X.env.qual ++ "<lambda>") := (I.hok c0 _ hc0).1
    have hf : codeAmong pos (#[rawInt pos.line, rawInt pos.col, Value.ref c0] : Array Value).toList = some (.ref c0) := by simp [codeAmong, rawInt]
    refine kla_makeFunctionHit (mg := X.mg) hcl I.ok.glob hgl hcode CC oP (show TriplesOk [rawInt pos.line, rawInt pos.col, Value.ref c0] from True.intro) hf hb fun ctv h' tk kk hge => ?_
    have I1 : Inv X pins σ H { s with heap := h'.push (kla_obj "<lambda>" (X.env.qual ++ "<lambda>") params body sc (clOf X.env.cells sc.names []) ((X.mg "__name__").getD .none) c0 ctv), toks := tk } := I.kept fun b o e => Heap.get?_push_of_some _ (kk b o e)
    have I3 := I1.pin1 (I.fpOk (b := h'.objs.size) hge (I.hok.fresh hge)) (Heap.get?_push_size _ rfl) (fun v z => by cases z)
    exact k _ c0 _ _ ctv _ I3 (SameP.refl H) ⟨_, hP, .inr ⟨c0, rfl, hc0⟩⟩ hc0
end
end L2

namespace L2
open PySem PySem.Spec PySem.W PyProof.Rows L3

/-! ### min(xs, key=f) -/
section
variable {X : Cx} {pz : List (Addr × Obj)} {σ : St} {H : Hp} {s : Shared} {ns : List Int} {kf : Int → Int} {l it sx f : Addr} {R : Result → Shared → Prop}
/-- the best so far -/
def BestAt (kf : Int → Int) (ns : List Int) (sx : Addr) (j : Nat) (h : Heap) : Prop := (j = 0 ∧ ∃ c, h.get? sx = some (seqObj "list" #[] c)) ∨
  (0 < j ∧ ∃ nb vb tb c, h.get? sx = some (seqObj "list" #[vb, .int (kf nb) tb] c) ∧ RelV (.int nb) vb ∧ nb ∈ ns ∧ ∀ i n, i < j → ns[i]? = some n → kf nb ≤ kf n)
theorem at_int {vs : List Value} (rv : Vals (ns.map V.int) vs) {j : Nat} {v : Value} (e : vs[j]? = some v) : ∃ n t, ns[j]? = some n ∧ v = .int n t := by
  have hl := rv.length
  rw [List.length_map] at hl
  have hj : j < vs.length := (List.getElem?_eq_some_iff.mp e).1
  obtain ⟨u, e', t, ru⟩ := rv.get (i := j) (x := .int ns[j]) (by simp [show j < ns.length by omega])
  rw [e] at e'; cases e'
  exact ⟨ns[j], t, List.getElem?_eq_getElem (by omega), ru⟩
theorem min_loop (hh : X.A.handled = none) (hl : SqL X.K H l (ns.map V.int)) (h0 : 0 < ns.length) (hli : l ≠ it)
    (turn : ∀ (n : Int) (u : Value) (pp : List (Addr × Obj)) (s : Shared), n ∈ ns → RelV (.int n) u → (∀ p ∈ pz, p ∈ pp) → Inv X pp σ H s → wpAny (model X.prog X.w) X.A.in1 (call (.ref f) [u]) (EP X pp σ (fun v H' => v = .int (kf n) ∧ H' = H)) (fun _ _ => False) s)
    (hR : ∀ nb vb s', Inv X pz σ H s' → RelV (.int nb) vb → nb ∈ ns → (∀ n ∈ ns, kf nb ≤ kf n) → R (.ok (.ret vb)) s') :
    ∀ (r j : Nat) (s : Shared), ns.length - j = r → j ≤ ns.length → Inv X pz σ H s → FpOk X pz H sx → FpOk X pz H it → sx ≠ it → s.heap.IsListIter it l j → BestAt kf ns sx j s.heap →
      codeAny (model X.prog X.w) X.A (.builtin "min.loop" ⟨[.ref it, .ref f, .ref sx], []⟩) R s := by
  have hname : (toString "min" ++ toString ".loop" : String) = "min.loop" := by decide
  intro r
  induction r with
  | zero =>
    intro j s hr hj I fs fi nsi hit hb
    have ej : j = ns.length := by omega
    rcases hb with ⟨z, _⟩ | ⟨_, nb, vb, tb, c, eS, rb, mb, best⟩
    · omega
    · obtain ⟨vs, rv, pl, hz⟩ := I.list hl
      have lv := rv.length
      rw [List.length_map] at lv
      have W := Walks.list (prog := X.prog) (w := X.w) (A := X.A.in1) hh it l hli vs.toArray
      refine (codeAny_builtin PySem.F.entry_min_loop (?_ : wpAny _ _ _ _ _ s))
      rw [(Around.under_plainId PySem.F.plain_min_loop _)]
      show wpAny _ X.A.in1 (seqItems? (.ref sx) >>= _) _ _ _
      refine wpAny_bind (wpAny_seqItems eS rfl (?_ : wpAny _ X.A.in1 (tryCatch (pyNext (.ref it)) _ >>= _) _ _ _))
      refine wpAny_bind (wpAny_tryCatch (W.done _ _ _ ⟨by rw [List.size_toArray, ← lv, ← ej]; exact hit, pl.isList⟩ fun h' tk' hk' => ?_))
      have k1 : ∀ b o, b ≠ it → s.heap.get? b = some o → h'.get? b = some o := fun b o n e => hk' b o (by simpa using n) e
      have I1 : Inv X pz σ H { s with heap := h', toks := tk' } := I.turned k1 fi.1 fi.2.1 fi.2.2.2.1 fi.2.2.2.2.1 fi.2.2.2.2.2
      have e1 := k1 sx _ nsi eS
      show wpAny _ X.A.in1 (updateSeq sx (fun _ => #[]) >>= _) _ _ _
      refine wpAny_bind (wpAny_updateSeq e1 rfl (wpAny_bind (wpAny_letGo (wpAny_pure ?_))))
      have sb := Heap.SameBut.update h' sx (Obj.mapSeq fun _ => (#[] : Array Value))
      refine hR nb vb _ (I1.turned (h' := _) (t' := tk') (it := sx) (fun b o n e => (sb.2 b n).trans e) fs.1 fs.2.1 fs.2.2.2.1 fs.2.2.2.2.1 fs.2.2.2.2.2) rb mb fun n hn => ?_
      obtain ⟨i, hi, e⟩ := List.getElem_of_mem hn
      exact best i n (by omega) (by rw [← e]; exact List.getElem?_eq_getElem hi)
  | succ r ih =>
    intro j s hr hj I fs fi nsi hit hb
    have lt : j < ns.length := by omega
    obtain ⟨vs, rv, pl, hz⟩ := I.list hl
    have lv := rv.length
    rw [List.length_map] at lv
    have W := Walks.list (prog := X.prog) (w := X.w) (A := X.A.in1) hh it l hli vs.toArray
    have hS : ∃ xs c, s.heap.get? sx = some (seqObj "list" xs c) ∧ ((j = 0 ∧ xs = #[]) ∨ (0 < j ∧ ∃ nb vb tb, xs = #[vb, .int (kf nb) tb] ∧ RelV (.int nb) vb ∧ nb ∈ ns ∧ ∀ i n, i < j → ns[i]? = some n → kf nb ≤ kf n)) := by
      rcases hb with ⟨z, c, e⟩ | ⟨z, nb, vb, tb, c, e, q⟩
      · exact ⟨_, c, e, .inl ⟨z, rfl⟩⟩
      · exact ⟨_, c, e, .inr ⟨z, nb, vb, tb, rfl, q⟩⟩
    obtain ⟨xs, c, eS, hx⟩ := hS
    refine (codeAny_builtin PySem.F.entry_min_loop (?_ : wpAny _ _ _ _ _ s))
    rw [(Around.under_plainId PySem.F.plain_min_loop _)]
    show wpAny _ X.A.in1 (seqItems? (.ref sx) >>= _) _ _ _
    refine wpAny_bind (wpAny_seqItems eS rfl (?_ : wpAny _ X.A.in1 (tryCatch (pyNext (.ref it)) _ >>= _) _ _ _))
    refine wpAny_bind (wpAny_tryCatch (W.item j _ _ _ (by rw [List.size_toArray]; omega) ⟨hit, pl.isList⟩ fun v h' tk' hP hst' hk' => ?_))
    have hv : vs[j]? = some v := by simpa using hP
    obtain ⟨n, t, en, rfl⟩ := at_int rv hv
    have mn : n ∈ ns := List.mem_of_getElem? en
    have k1 : ∀ b o, b ≠ it → s.heap.get? b = some o → h'.get? b = some o := fun b o z e => hk' b o (by simpa using z) e
    have I1 : Inv X pz σ H { s with heap := h', toks := tk' } := I.turned k1 fi.1 fi.2.1 fi.2.2.2.1 fi.2.2.2.2.1 fi.2.2.2.2.2
    have e1 := k1 sx _ nsi eS
    obtain ⟨oI, hoI, hoc, hod⟩ := id hst'.1
    have P1 : Inv X ((pz ++ [(sx, seqObj "list" xs c)]) ++ [(it, oI)]) σ H { s with heap := h', toks := tk' } := by
      have a := I1.pin1 fs e1 (fun v z => by cases z)
      refine a.pin1 ⟨fi.1, fi.2.1, fi.2.2.1, fi.2.2.2.1, fi.2.2.2.2.1, fun p hp => ?_⟩ hoI (fun v z => by rw [hod] at z; cases z)
      rcases List.mem_append.mp hp with z | z
      · exact fi.2.2.2.2.2 p (List.mem_append_left _ z)
      · rcases List.mem_append.mp z with z | z
        · exact fi.2.2.2.2.2 p (List.mem_append_right _ z)
        · have z' : p = (sx, seqObj "list" xs c) := by simpa using z
          rw [z']; exact nsi
    show wpAny _ X.A.in1 (tryCatch (holding [Value.int n t] (call (.ref f) [Value.int n t])) _ >>= _) _ _ _
    refine wpAny_bind (wpAny_tryCatch (wpAny_holding (wpAny_mono (turn n _ _ _ mn ⟨t, rfl⟩ (fun p hp => List.mem_append_left _ (List.mem_append_left _ hp)) P1) (fun w s2 hw => ?_) fun _ _ z => z.elim)))
    obtain ⟨v2, H2, J, r2, rfl, rfl⟩ := hw
    obtain ⟨t2, rfl⟩ := r2
    have I2 : Inv X pz σ H2 s2 := J.pins_of fun p hp => J.pin p (List.mem_append_right _ (List.mem_append_left _ (List.mem_append_left _ hp)))
    have e2 := (J.pin (sx, seqObj "list" xs c) (List.mem_append_right _ (List.mem_append_left _ (List.mem_append_right _ (by simp))))).1
    have i2 := (J.pin (it, oI) (List.mem_append_right _ (List.mem_append_right _ (by simp)))).1
    -- the best is written anew
    have wr : ∀ (tk : Nat), (∀ i m, i < j → ns[i]? = some m → kf n ≤ kf m) → codeAny (model X.prog X.w) X.A (.builtin "min.loop" ⟨[.ref it, .ref f, .ref sx], []⟩) R { s2 with heap := s2.heap.update sx (Obj.mapSeq fun _ => #[.int n t, .int (kf n) t2]), toks := tk } := fun tk hbest => by
      have sb := Heap.SameBut.update s2.heap sx (Obj.mapSeq fun _ => #[Value.int n t, Value.int (kf n) t2])
      have I3 : Inv X pz σ H2 { s2 with heap := s2.heap.update sx (Obj.mapSeq fun _ => #[.int n t, .int (kf n) t2]), toks := tk } := I2.turned (it := sx) (fun b o z e => (sb.2 b z).trans e) fs.1 fs.2.1 fs.2.2.2.1 fs.2.2.2.2.1 fs.2.2.2.2.2
      refine ih (j + 1) _ (by omega) (by omega) I3 fs fi nsi ⟨oI, (sb.2 it (Ne.symm nsi)).trans i2, hoc, hod⟩ (.inr ⟨Nat.succ_pos _, n, _, t2, _, get?_update_seq e2 fun _ => #[.int n t, .int (kf n) t2], ⟨t, rfl⟩, mn, fun i m hi em => ?_⟩)
      by_cases z : i = j
      · subst z
        rw [en] at em; cases em
        exact Int.le_refl _
      · exact hbest i m (by omega) em
    rcases hx with ⟨z, rfl⟩ | ⟨z, nb, vb, tb, rfl, rb, mb, best⟩
    · show wpAny _ X.A.in1 (updateSeq sx (fun _ => #[.int n t, .int (kf n) t2]) >>= _) _ _ _
      refine wpAny_bind (wpAny_updateSeq e2 rfl ?_)
      rw [hname]
      exact wpAny_pure ⟨plainId_quiet PySem.F.plain_min_loop _, wr s2.toks fun i m hi _ => absurd hi (by omega)⟩
    · show wpAny _ X.A.in1 (tryCatch (holding [.int n t, .int (kf n) t2] (richCompare .Lt (.int (kf n) t2) (.int (kf nb) tb) >>= _)) _ >>= _) _ _ _
      refine wpAny_bind (wpAny_tryCatch (wpAny_holding (wpAny_bind (lt_int (?_ : wpAny _ _ _ _ _ _)))))
      refine wpAny_bind (wpAny_holding (wpAny_truthy_bool (wpAny_bind (wpAny_letGo (wpAny_pure ?_)))))
      by_cases hlt : kf n < kf nb
      · simp only [hlt, decide_true, if_true]
        refine wpAny_bind (wpAny_updateSeq e2 rfl (wpAny_bind (wpAny_letGo ?_)))
        rw [hname]
        refine wpAny_pure ⟨plainId_quiet PySem.F.plain_min_loop _, wr s2.toks fun i m hi em => ?_⟩
        have := best i m hi em
        omega
      · simp only [hlt, decide_false, Bool.false_eq_true, if_false]
        refine wpAny_bind (wpAny_letGo ?_)
        rw [hname]
        refine wpAny_pure ⟨plainId_quiet PySem.F.plain_min_loop _, ih (j + 1) _ (by omega) (by omega) I2 fs fi nsi ⟨oI, i2, hoc, hod⟩ (.inr ⟨Nat.succ_pos _, nb, vb, tb, c, e2, rb, mb, fun i m hi em => ?_⟩)⟩
        by_cases z2 : i = j
        · subst z2
          rw [en] at em; cases em
          omega
        · exact best i m (by omega) em
end
end L2

namespace L2
open PySem PySem.Spec PySem.W PyProof.Rows L3
section
variable {X : Cx} {pins : List (Addr × Obj)} {σ : St} {H : Hp} {s : Shared} {ns : List Int} {kf : Int → Int} {l f : Addr}
theorem min_call {Q : VK} {E : Value → Shared → Prop} {pz : List (Addr × Obj)} (I : Inv X pz σ H s) (hh : X.A.handled = none) (hl : SqL X.K H l (ns.map V.int)) (h0 : 0 < ns.length)
    (turn : ∀ (n : Int) (u : Value) (pp : List (Addr × Obj)) (s : Shared), n ∈ ns → RelV (.int n) u → (∀ p ∈ pz, p ∈ pp) → Inv X pp σ H s → wpAny (model X.prog X.w) X.A.in1 (call (.ref f) [u]) (EP X pp σ (fun v H' => v = .int (kf n) ∧ H' = H)) (fun _ _ => False) s)
    (q : ∀ m ∈ ns, (∀ n ∈ ns, kf m ≤ kf n) → Q (.int m) H) : wpAny (model X.prog X.w) X.A (call (.builtin "min") [.ref l] [(Str.ofString "key", .ref f)]) (EP X pz σ Q) E s := by
  have hname : (toString "min" ++ toString ".loop" : String) = "min.loop" := by decide
  obtain ⟨vs, rv, pl, hz⟩ := I.list hl
  have hll : l < s.heap.objs.size := by
    obtain ⟨o, e, _⟩ := pl.isList
    exact Heap.lt_size e
  refine kmk_tree PySem.F.kind_min PySem.F.plain_min PySem.F.entry_min (kmk_min_key _ _) (?_ : wpAny _ X.A.in1 (Builtin.Builtins.bindParams "min" ["key", "default"] 0 ⟨[], [(Str.ofString "key", .ref f)]⟩ >>= _) _ _ s)
  refine wpAny_bind (wpAny_of_eq (rfl : Builtin.Builtins.bindParams "min" ["key", "default"] 0 ⟨[], [(Str.ofString "key", .ref f)]⟩ = pure [some (.ref f), none]) ?_)
  refine wpAny_bind (wpAny_pure (wpAny_bind (wpAny_pyIter_list pl.isList (wpAny_bind (wpAny_newList ?_ (Nat.zero_le _))))))
  rw [hname]
  have z1 : (s.heap.push { cls := .type "list_iterator", data := .fields #[.ref l, .int 0 0] }).objs.size = s.heap.objs.size + 1 := Heap.size_push _ _
  have hI : H s.heap.objs.size = none := I.hok.fresh (Nat.le_refl _)
  have hS : H (s.heap.push { cls := .type "list_iterator", data := .fields #[.ref l, .int 0 0] }).objs.size = none := I.hok.fresh (by rw [z1]; exact Nat.le_succ _)
  refine wpAny_pure ⟨plainId_quiet PySem.F.plain_min_loop _, ?_⟩
  have I1 : Inv X pz σ H { s with heap := (s.heap.push { cls := .type "list_iterator", data := .fields #[.ref l, .int 0 0] }).push (seqObj "list" #[] 0) } := I.kept (t' := s.toks) fun b o e => Heap.get?_push_of_some _ (Heap.get?_push_of_some _ e)
  refine min_loop (kf := kf) (pz := pz) (σ := σ) hh hl h0 (Nat.ne_of_lt hll) turn (fun nb vb s' J rb mb best => ?_) (ns.length - 0) 0 _ rfl (Nat.zero_le _) I1 (I.fpOk (by rw [z1]; exact Nat.le_succ _) hS) (I.fpOk (Nat.le_refl _) hI) (by rw [z1]; exact Nat.succ_ne_self _)
    ⟨_, Heap.get?_push_of_some _ (Heap.get?_push_size _ rfl), rfl, rfl⟩ (.inl ⟨rfl, 0, Heap.get?_push_size _ rfl⟩)
  exact ⟨.int nb, H, J, rb, q nb mb best⟩

def oneV (B : V → Hp → Prop) : List V → Hp → Prop := fun vs H => match vs with | [x] => B x H | _ => False
theorem oneV_of {B : V → Hp → Prop} : ∀ {vs : List V} {H : Hp}, oneV B vs H → ∃ x, vs = [x] ∧ B x H
  | [x], _, h => ⟨x, rfl, h⟩
  | [], _, h => h.elim
  | _ :: _ :: _, _, h => h.elim
/-- min(xs, key=lambda x: ..) -/
def tMinLam (K : PySem.W.Frag) (P : Addr) (lpos : Pos) (qual : Str) (tl te : TE) (idx : List Nat) (n k : Nat) : TE := fun σ H Q => tl σ H fun x H1 => ∃ (a : Addr) (ns : List Int) (kf : Int → Int), x = .ref a ∧ SqL K H1 a (ns.map V.int) ∧ 0 < ns.length ∧ LamAt P lpos qual H1 ∧
  ∀ H2, SameP P H1 H2 → LamAt P lpos qual H2 → SqL K H2 a (ns.map V.int) ∧ (∀ m ∈ ns, te ((capS idx n σ).set k (some (.int m))) H2 fun v H' => v = .int (kf m) ∧ H' = H2) ∧ ∀ m ∈ ns, (∀ n ∈ ns, kf m ≤ kf n) → Q (.int m) H2
theorem pe_minLam {sc : Scope} {N : List Str} {idx : List Nat} {k : Nat} {px : Str} {params : Arguments} {le body : Expr} {p pos lpos kpos : Pos} {c P : Addr} {tl te : TE} (hc : X.calm = true) (hrm : X.A.depth + 5 < recursionLimit) (hg : Gl X "min") (hm : X.mg "min" = none) (hl : PE X le tl) (S : ScC X sc N idx)
    (hcode : X.env.code = .ref c) (C : CodeHd X.base c P) (B : BmAt X.mg X.base) (hk : N[k]? = some px) (hlo : sc.names.lookup px = some .local) (hi : idx.length ≤ k) (hb : ∀ A qual f cd s H, PE (cxL X A sc N qual f cd s H) body te)
    (hbind : ∀ (qual : Str) (cl : List (Str × Addr)) (pm cd ctv u : Value), bindArgs (kla_fn "<lambda>" qual params body sc cl pm cd ctv) ⟨[u], []⟩ = pure [(px, u)]) (hdef : defaultsOf params X.env = ([], []) := by rfl) (hco : sc.isCoroutine = false := by rfl) (hgen : sc.isGenerator = false := by rfl)
    (he : backTo pos (starEach [le] X.env) = (false, eval le X.env) :: backTo pos (starEach [] X.env) := by rfl) (hpl : (backTo pos (starEach [le] X.env)).any (·.1) = false := by rfl) (hs : starEach [le] X.env = (false, eval le X.env) :: starEach [] X.env := by rfl) :
    PE X (.Call (.Name "min" p) [le] [⟨some "key", .Lambda params body sc lpos, kpos⟩] pos) (tMinLam X.K P lpos (X.env.qual ++ "<lambda>") tl te idx N.length k) := by
  intro pins s σ H Q I h
  refine wpAny_Call_Name_kw (ld_blt I hg hm (show bootBuiltins "min" = some (.builtin "min") from boot_min) ?_ (by decide) (by decide))
  refine callWith_kw (thn (pa_cons (X := X) hl pa_nil hs pos pins s σ H (oneV fun x H1 => ∃ (a : Addr) (ns : List Int) (kf : Int → Int), x = .ref a ∧ SqL X.K H1 a (ns.map V.int) ∧ 0 < ns.length ∧ LamAt P lpos (X.env.qual ++ "<lambda>") H1 ∧
    ∀ H2, SameP P H1 H2 → LamAt P lpos (X.env.qual ++ "<lambda>") H2 → SqL X.K H2 a (ns.map V.int) ∧ (∀ m ∈ ns, te ((capS idx N.length σ).set k (some (.int m))) H2 fun v H' => v = .int (kf m) ∧ H' = H2) ∧ ∀ m ∈ ns, (∀ n ∈ ns, kf m ≤ kf n) → Q (.int m) H2) I h) fun us s1 ⟨vs, H1, I1, rv, q1⟩ => ?_) he hpl rfl rfl
  obtain ⟨x, rfl, a, ns, kf, rfl, hL, h0, hlam, hq⟩ := oneV_of q1
  obtain ⟨u, rfl, ru⟩ := vals1 rv
  cases ru
  refine kws_cons (lam_eval I1 S hcode C B hdef hlam fun f c' H2 pm ctv s2 I2 sm lam2 hc2 => kws_nil ?_)
  obtain ⟨hL2, hte, hQ⟩ := hq H2 sm lam2
  have hh : X.A.handled = none := I.ok.hd hc
  refine thn (min_call (kf := kf) (f := f) I2 hh hL2 h0 (fun n u pp s3 hn ru hp I3 => ?_) fun m hm hb => hQ m hm hb) fun w s4 ⟨v, H4, I4, r4, q4⟩ => ⟨v, H4, I4.unpinned, r4, q4⟩
  refine lam_call (A := X.A.in1) (v := .int n) I3 S I3.ok.frames hh (by show X.A.depth < _; omega) hk hlo hi ru (I3.pin _ (List.mem_append_right _ (hp _ (List.mem_append_right _ List.mem_cons_self)))).1 (I3.hok c' _ hc2).1 (hbind _ _ _ _ _ _) hco hgen (hb _ _ _ _ _ _) (hte n hn)
end
end L2

namespace L2
open PySem PySem.Spec PySem.W PyProof.Rows

/-- nothing is tracked but the script and the empty tables ts -/
def OnlyT (ts : List Addr) (H : Hp) : Prop := (∀ b, H b = none ∨ (∃ o xs, H b = some (.frz o (.lst xs))) ∨ (b ∈ ts ∧ H b = some (.tbl #[]))) ∧ ∀ b ∈ ts, H b = some (.tbl #[])
/-- the law's call where defs make lambdas: their codes' tables are tracked -/
theorem law_callT {P : Program} {w : World} {K : PySem.W.Frag} {mg mb : Str → Option Value} {CX : CXT} {k : Nat} {fa a : Addr} {fd : FuncData} {x : Str} {sp : Sp} {s₁ : Shared} {vs : List Value} {ns : List Int} {ts : List Addr}
    (KX : K.In s₁.heap) (hns : s₁.heap.Ns mainGlobals mg) (hb : s₁.heap.Ns builtinsNs mb) (hbb : ∀ x : Str, x ≠ "__name__" → mb x = bootBuiltins x) (hlim : s₁.heap.NoLimit) (hg : s₁.gens = #[]) (hbm : BmAt mg s₁.heap)
    (hts : ∀ b ∈ ts, s₁.heap.get? b = some (tabObj #[])) (htc : ∀ b ∈ ts, isCodeTable s₁.heap b) (htk : ∀ b ∈ ts, K.lookup b = none)
    (ha : s₁.heap.get? a = some { cls := .type "list", data := .seq vs.toArray }) (hi : IntsAre vs ns) (hl : ns.length ≤ sizeLine) (hr : Room k callerA)
    (F : ∀ base : Heap, K.In base → base.Ns mainGlobals mg → BmAt mg base → FnOk P w K mg base CX k fa fd [x] sp) (hbind : ∀ (s : Shared) (u : Value), BindsTo s fd ⟨[u], []⟩ [(x, u)])
    (hsp : ∀ H : Hp, OnlyT ts H → SqL K H a (ns.map V.int) → sp [.ref a] H (fun v _ => v = .bl true) fun _ _ _ => False)
    (hCX : ∀ H e s', CX [] H s₁ (fun _ _ _ => False) e s' → False) :
    codeAny (model P w) callerA (.call (.ref fa) ⟨[.ref a], []⟩) (fun r s' => r = .ok (.ret (.bool true)) ∧ OldK s₁.heap s'.heap ∧ s'.os = s₁.os ∧ AllBare s'.gens) s₁ := by
  have rv := vals_ints hi
  have lenV := hi.length
  have ant : a ∉ ts := fun z => by
    have e := hts a z
    rw [ha] at e; cases e
  have core : ∀ H : Hp, OnlyT ts H → SqL K H a (ns.map V.int) → HOk P w H s₁.heap → (∀ b, H b ≠ none → b = a ∨ b ∈ ts) → (H a ≠ none → K.lookup a = none) →
      codeAny (model P w) callerA (.call (.ref fa) ⟨[.ref a], []⟩) (fun r s' => r = .ok (.ret (.bool true)) ∧ OldK s₁.heap s'.heap ∧ s'.os = s₁.os ∧ AllBare s'.gens) s₁ := by
    intro H hO hS hok hA hK
    have base_of : ∀ {b : Addr} {o : Obj}, s₁.heap.get? b = some o → H b = none → (hidT s₁.heap H).get? b = some o := fun e n => hidT_get e n
    have noA : ∀ {b : Addr} {o : Obj}, s₁.heap.get? b = some o → (∀ xs n, o.data ≠ .seq xs n) → (∀ xs, o.data ≠ .fields xs) → H b = none := fun {b o} e d1 d2 => by
      cases q : H b with
      | none => rfl
      | some u =>
        rcases hA b (by rw [q]; simp) with z | z
        · subst z
          rw [ha] at e; cases e
          exact absurd rfl (d1 _ _)
        · rw [hts b z] at e; cases e
          exact absurd rfl (d2 _)
    have nsK : ∀ {b : Addr} {m : Str → Option Value}, s₁.heap.Ns b m → (hidT s₁.heap H).Ns b m := fun {b m} ⟨o, es, ep, e, d, r⟩ => ⟨o, es, ep, base_of e (noA e (fun _ _ z => by rw [d] at z; cases z) fun _ z => by rw [d] at z; cases z), d, r⟩
    have hKb : K.In (hidT s₁.heap H) := fun b o e => base_of (KX b o e) (by
      cases q : H b with
      | none => rfl
      | some u =>
        rcases hA b (by rw [q]; simp) with z | z
        · subst z
          rw [hK (by rw [q]; simp)] at e; cases e
        · rw [htk b z] at e; cases e)
    have hB : BmAt mg (hidT s₁.heap H) := by
      obtain ⟨bm, ob, b1, b2, b3, b4, b5, b6, b7⟩ := hbm
      exact ⟨bm, ob, b1, b2, b3, base_of b4 (noA b4 (fun _ _ z => by rw [b7] at z; cases z) fun _ z => by rw [b7] at z; cases z), b5, b6, b7⟩
    have hM : Mod K mg (hidT s₁.heap H) := ⟨hKb, nsK hns, ⟨mb, nsK hb, hbb⟩, let ⟨mc, h1, h2⟩ := hlim; ⟨mc, nsK h1, h2⟩⟩
    have e0 : Env0 P w K mg (hidT s₁.heap H) callerA [] s₁ H := ⟨rfl, hM, fun b o e => of_hidT e, Nat.le_of_eq (hidT_size _ _), trivial, fun b hb => absurd (show b ∈ ([] : List Addr) from hb) (by simp), hok, .of_eq hg⟩
    refine codeAny_mono ((F _ hKb (nsK hns) hB).run callerA [] s₁ H ⟨[.ref a], []⟩ [.ref a] [.ref a] _ _ hr e0 (hbind s₁ (.ref a)) (.cons rfl .nil) (hsp H hO hS)) fun r s' h => ?_
    cases r with
    | error e => exact (hCX H e s' h).elim
    | ok fl =>
      cases fl with
      | next => exact False.elim h
      | brk => exact False.elim h
      | cont => exact False.elim h
      | ret u =>
        obtain ⟨v, H', os, bare, un, hok', r', q⟩ := h
        have q' : v = .bl true := q
        subst q'
        obtain rfl : u = Value.bool true := r'
        have old : ∀ b o, s₁.heap.get? b = some o → asItWas s₁.heap s'.heap b o ∧ ∃ o', s'.heap.get? b = some o' := fun b o e => by
          cases q : H b with
          | none =>
            have := un.keep b o e q (by intro z; exact absurd (show b ∈ ([] : List Addr) from z) (by simp)) (by simp)
            exact ⟨.inl this, _, this⟩
          | some u =>
            rcases hO.1 b with z | ⟨ob, xs, z⟩ | ⟨hm, z⟩
            · rw [q] at z; cases z
            · have z2 := un.frzs b ob _ z
              obtain ⟨e1, _⟩ := hok b _ z
              obtain ⟨e2, _⟩ := hok' b _ z2
              rw [e] at e1; cases e1
              exact ⟨.inl e2, _, e2⟩
            · obtain ⟨more, z2⟩ := un.tbls b _ z
              have e2 : s'.heap.get? b = some (tabObj (#[] ++ more)) := hok' b _ z2
              have e1 := hts b hm
              rw [e] at e1; cases e1
              exact ⟨.inr (.inl ⟨htc b hm, rfl, #[], more, rfl, e2⟩), _, e2⟩
        exact ⟨rfl, ⟨fun b o e => (old b o e).1, fun b o e => (old b o e).2⟩, os, bare⟩
  have tok : ∀ b, b ∈ ts → ObjOk P w (fun b => if b = a then none else if b ∈ ts then some (.tbl #[]) else none) s₁.heap b (.tbl #[]) := fun b hb => hts b hb
  cases hk : K.lookup a with
  | some o =>
    have e := KX a o hk
    rw [ha] at e
    cases e
    have hta : ∀ b ∈ ts, (fun b => if b ∈ ts then some (HO.tbl #[]) else none) b = some (.tbl #[]) := fun b hb => if_pos hb
    refine core (fun b => if b ∈ ts then some (.tbl #[]) else none) ⟨fun b => ?_, hta⟩ (.inr ⟨_, vs.toArray, _, hk, rfl, rfl, rfl, by rw [List.size_toArray, lenV]; exact hl, by simpa using rv⟩) (fun b u z => ?_) (fun b z => ?_) (fun z => absurd (if_neg ant) z)
    · by_cases hb : b ∈ ts
      · exact .inr (.inr ⟨hb, if_pos hb⟩)
      · exact .inl (if_neg hb)
    · by_cases hb : b ∈ ts
      · have z' := (if_pos hb).symm.trans z
        cases z'
        exact hts b hb
      · have z' := (if_neg hb).symm.trans z
        cases z'
    · by_cases hb : b ∈ ts
      · exact .inr hb
      · exact absurd (if_neg hb) z
  | none =>
    have ne : ∀ b ∈ ts, b ≠ a := fun b hb z => ant (z ▸ hb)
    refine core (fun b => if b = a then some (.frz { cls := .type "list", data := .seq vs.toArray } (.lst (ns.map V.int))) else if b ∈ ts then some (.tbl #[]) else none) ⟨fun b => ?_, fun b hb => ?_⟩ (.inl (.inr ⟨{ cls := .type "list", data := .seq vs.toArray }, if_pos rfl⟩)) (fun b u z => ?_) (fun b z => ?_) fun _ => hk
    · by_cases hb : b = a
      · exact .inr (.inl ⟨_, _, if_pos hb⟩)
      · by_cases hc : b ∈ ts
        · exact .inr (.inr ⟨hc, by dsimp only; rw [if_neg hb, if_pos hc]⟩)
        · exact .inl (by dsimp only; rw [if_neg hb, if_neg hc])
    · dsimp only
      rw [if_neg (ne b hb), if_pos hb]
    · dsimp only at z
      by_cases hb : b = a
      · rw [if_pos hb] at z
        cases z
        subst hb
        exact ⟨ha, by rw [List.length_map]; exact hl, vs, _, rv, ha⟩
      · rw [if_neg hb] at z
        by_cases hc : b ∈ ts
        · rw [if_pos hc] at z
          cases z
          exact hts b hc
        · rw [if_neg hc] at z
          cases z
    · by_cases hb : b = a
      · exact .inl hb
      · by_cases hc : b ∈ ts
        · exact .inr hc
        · exact absurd (show (if b = a then _ else if b ∈ ts then _ else none) = none by rw [if_neg hb, if_neg hc]) z
/-- the goal that k_head leaves where the text has lambdas -/
theorem walk_ofT {l : PySem.W.OpenLaw} {n k : Nat} {q : Program} {loose : List Str} {XP : (Str → Option Value) → Heap → Prop} {d : DefRec} {K : Params → PySem.W.Frag} {as : List Addr} {ee : ∀ P, as = (K P).map (·.1)} {ts : List Addr} {CX : World → CXT} {sp : World → Sp} {x : Str}
    (hn : l.most = some n) (hn2 : n ≤ sizeLine) (hdf : d.params.defaults = []) (hr : Room k callerA) (cs : List Addr)
    (hcs : ∀ P : Params, (cs.zip ts).all (fun z => codeHdIn (K P) z.1 z.2) = true) (hlen : ts.length ≤ cs.length) (htk : ∀ P : Params, ts.all (fun b => ((K P).lookup b).isNone) = true)
    (F : ∀ (w : World) (mg : Str → Option Value) (fa : Addr) (h : Heap), (K w.params).In h → h.Ns mainGlobals mg → mg d.name = some (.ref fa) →
      ∃ fd : FuncData, (∀ (s : Shared) (u : Value), BindsTo s fd ⟨[u], []⟩ [(x, u)]) ∧
        ∀ base : Heap, (K w.params).In base → base.Ns mainGlobals mg → BmAt mg base → FnOk l.prog w (K w.params) mg base (CX w) k fa fd [x] (sp w))
    (hsp : ∀ (w : World) (H : Hp) (a : Addr) (ns : List Int), ns.length ≤ n → OnlyT ts H → SqL (K w.params) H a (ns.map V.int) → sp w [.ref a] H (fun v _ => v = .bl true) fun _ _ _ => False)
    (hCX : ∀ (w : World) (H : Hp) (s : Shared) (e : Value) (s' : Shared), CX w [] H s (fun _ _ _ => False) e s' → False) :
    PySem.W.WalkO q loose XP (kmHook K as ee ts).says l.row.toRowW d [] (fun f vs => PySem.call f vs) := by
  refine Att.attach_call hn hdf fun w s₀ s₁ mg mb fa o pm cd doc a vs ns G Y ho hd hcd hmg hobj hints hlen2 hg => ?_
  have KX : (K w.params).In s₁.heap := km_in_of Y
  have tabs := km_tabs_of Y
  obtain ⟨fd, hb, hF⟩ := F w mg fa _ KX G.T.g hmg
  have bm : BmAt mg s₁.heap := by
    obtain ⟨bm, ob, b1, b2, b3, b4, b5, b6⟩ := G.T.bmain
    refine ⟨bm, ob, b1, b2, fun z => ?_, b3, b4, b5, b6⟩
    obtain ⟨o', es, ep, e, hd', _⟩ := G.T.g
    rw [z, e] at b3; cases b3
    rw [hd'] at b6; cases b6
  refine law_callT (ts := ts) KX G.T.g G.T.b G.T.builtins G.T.nolimit hg bm tabs (fun b hb => ?_) (fun b hb => ?_) hobj hints (Nat.le_trans hlen2 hn2) hr hF hb (fun H hO hS => hsp w H a ns hlen2 hO hS) fun H e s' => hCX w H s₁ e s'
  · obtain ⟨i, hi, e⟩ := List.getElem_of_mem hb
    have hz : (cs[i]'(by omega), b) ∈ cs.zip ts := by
      rw [List.mem_iff_getElem]
      exact ⟨i, by rw [List.length_zip]; omega, by rw [List.getElem_zip, e]⟩
    have := List.all_eq_true.mp (hcs w.params) _ hz
    exact ((codeHd_of_K KX this).tab (tabs b hb)).isCodeTable
  · have := List.all_eq_true.mp (htk w.params) b hb
    simpa using this
end L2

namespace L2
open PySem PySem.Spec PySem.W PyProof.Rows

/-! ### a set's table: its places rise -/
def Asc (xs : Array Nat) : Prop := xs.toList.Pairwise (· < ·)
theorem asc_lt {xs : Array Nat} (h : Asc xs) {i k : Nat} (hik : i < k) (hk : k < xs.size) : xs[i] < xs[k] := by
  have := List.pairwise_iff_getElem.mp h i k (by simpa using Nat.lt_trans hik hk) (by simpa using hk) hik
  simpa using this
theorem below_go {xs : Array Nat} (h : Asc xs) (j : Nat) : ∀ f lo hi, lo ≤ hi → hi ≤ xs.size → hi - lo ≤ f → (∀ i (_ : i < xs.size), i < lo → xs[i] < j) → (∀ i (_ : i < xs.size), hi ≤ i → j ≤ xs[i]) →
    SetTable.below.go xs j f lo hi ≤ xs.size ∧ (∀ i (_ : i < xs.size), i < SetTable.below.go xs j f lo hi → xs[i] < j) ∧ ∀ i (_ : i < xs.size), SetTable.below.go xs j f lo hi ≤ i → j ≤ xs[i]
  | 0, lo, hi, h1, h2, h3, a, b => by
    have : lo = hi := by omega
    subst this
    exact ⟨h2, a, b⟩
  | f + 1, lo, hi, h1, h2, h3, a, b => by
    unfold SetTable.below.go
    by_cases hlt : lo < hi
    · rw [if_pos hlt]
      have hm : (lo + hi) / 2 < hi := by omega
      have hm2 : lo ≤ (lo + hi) / 2 := by omega
      have hms : (lo + hi) / 2 < xs.size := by omega
      have eg : xs.getD ((lo + hi) / 2) j = xs[(lo + hi) / 2] := by simp [Array.getD, hms]
      dsimp only
      rw [eg]
      by_cases hb : xs[(lo + hi) / 2] < j
      · rw [if_pos hb]
        refine below_go h j f _ _ (by omega) h2 (by omega) (fun i hi' hl => ?_) b
        by_cases z : i = (lo + hi) / 2
        · subst z; exact hb
        · exact Nat.lt_trans (asc_lt h (by omega) hms) hb
      · rw [if_neg hb]
        refine below_go h j f _ _ hm2 (by omega) (by omega) a (fun i hi' hl => ?_)
        by_cases z : i = (lo + hi) / 2
        · subst z; omega
        · have := asc_lt h (i := (lo + hi) / 2) (k := i) (by omega) hi'
          omega
    · rw [if_neg hlt]
      have : lo = hi := by omega
      subst this
      exact ⟨h2, a, b⟩
theorem below_spec {xs : Array Nat} (h : Asc xs) (j : Nat) : SetTable.below xs j ≤ xs.size ∧ (∀ i (_ : i < xs.size), i < SetTable.below xs j → xs[i] < j) ∧ ∀ i (_ : i < xs.size), SetTable.below xs j ≤ i → j ≤ xs[i] :=
  below_go h j xs.size 0 xs.size (Nat.zero_le _) (Nat.le_refl _) (Nat.le_refl _) (fun _ _ z => absurd z (Nat.not_lt_zero _)) fun i hi z => absurd hi (Nat.not_lt.mpr z)
/-- the place behind the i-th is the next one's -/
theorem below_next {xs : Array Nat} (h : Asc xs) {i : Nat} (hi : i < xs.size) : SetTable.below xs (xs[i] + 1) = i + 1 := by
  obtain ⟨h1, h2, h3⟩ := below_spec h (xs[i] + 1)
  rcases Nat.lt_trichotomy (SetTable.below xs (xs[i] + 1)) (i + 1) with z | z | z
  · have := h3 i hi (by omega)
    omega
  · exact z
  · have hs : i + 1 < xs.size := by omega
    have a := h2 (i + 1) hs z
    have b := asc_lt h (i := i) (k := i + 1) (by omega) hs
    omega
theorem below_zero {xs : Array Nat} (h : Asc xs) : SetTable.below xs 0 = 0 := by
  obtain ⟨h1, h2, h3⟩ := below_spec h 0
  rcases Nat.eq_zero_or_pos (SetTable.below xs 0) with z | z
  · exact z
  · have := h2 0 (by omega) z
    omega
theorem asc_insert {xs : Array Nat} {j : Nat} (h : Asc xs) (hn : xs[SetTable.below xs j]? ≠ some j) : Asc (SetTable.insertAt xs (SetTable.below xs j) j) := by
  obtain ⟨h1, h2, h3⟩ := below_spec h j
  unfold Asc
  rw [SetTable.toList_insertAt]
  have ht : ∀ x ∈ xs.toList.take (SetTable.below xs j), x < j := fun x hx => by
    obtain ⟨i, hi, e⟩ := List.getElem_of_mem hx
    rw [List.length_take, Array.length_toList] at hi
    rw [List.getElem_take, Array.getElem_toList] at e
    rw [← e]
    exact h2 i (by omega) (by omega)
  have hd : ∀ x ∈ xs.toList.drop (SetTable.below xs j), j < x := fun x hx => by
    obtain ⟨i, hi, e⟩ := List.getElem_of_mem hx
    rw [List.length_drop, Array.length_toList] at hi
    rw [List.getElem_drop, Array.getElem_toList] at e
    have hlt : SetTable.below xs j + i < xs.size := by omega
    have a := h3 (SetTable.below xs j + i) hlt (by omega)
    rw [← e]
    rcases Nat.lt_or_ge j xs[SetTable.below xs j + i] with z | z
    · exact z
    · exfalso
      have eq : xs[SetTable.below xs j + i] = j := by omega
      by_cases i0 : i = 0
      · subst i0
        exact hn (by rw [Array.getElem?_eq_getElem (by omega)]; exact congrArg some eq)
      · have b := h3 (SetTable.below xs j) (by omega) (Nat.le_refl _)
        have c := asc_lt h (i := SetTable.below xs j) (k := SetTable.below xs j + i) (by omega) hlt
        omega
  refine List.pairwise_append.mpr ⟨h.sublist (List.take_sublist _ _), List.pairwise_cons.mpr ⟨hd, h.sublist (List.drop_sublist _ _)⟩, fun x hx y hy => ?_⟩
  rcases List.mem_cons.mp hy with z | z
  · rw [z]; exact ht x hx
  · exact Nat.lt_trans (ht x hx) (hd y z)

/-- no dummies; led; where it is plain its places rise -/
structure TabOk (led : Bool) (t : SetTable) : Prop where
  dum : t.dummies = #[]
  led : t.led = led
  asc : t.plain = true → Asc t.place
theorem tab_fresh (led : Bool) : TabOk led (.fresh 0 0 led) := ⟨rfl, rfl, fun _ => .nil⟩
theorem tab_standIn {led : Bool} {t : SetTable} (h : TabOk led t) (n : Nat) : TabOk led (t.standIn n) := ⟨rfl, h.led, fun z => by cases z⟩
theorem tab_or {led : Bool} {t : SetTable} (h : TabOk led t) (n : Nat) : TabOk led (t.orStandIn n) := by
  unfold SetTable.orStandIn
  split
  · exact h
  · exact tab_standIn h n
theorem has_none (j : Nat) : SetTable.has #[] j = false := by simp [SetTable.has]
theorem probe_free {t : SetTable} {hash : Nat → Int} {h : Int} (hd : t.dummies = #[]) (hne : ∀ i, (hash i == h) = false) : ∀ f (p : SetTable.Probe) j d, p.dummy = none → SetTable.probe.go t hash h f p = some (.empty j d) → d = none ∧ t.slot j = .empty
  | 0, p, j, d, _, e => by cases e
  | f + 1, p, j, d, hp, e => by
    unfold SetTable.probe.go at e
    cases q : t.slot p.j with
    | empty =>
      rw [q] at e
      simp only [Option.some.injEq, SetTable.Met.empty.injEq] at e
      obtain ⟨rfl, rfl⟩ := e
      exact ⟨hp, q⟩
    | dummy =>
      exfalso
      unfold SetTable.slot at q
      rw [hd, has_none] at q
      dsimp only at q
      split at q
      · cases q
      · simp at q
    | live i =>
      rw [q] at e
      simp only [hne i, Bool.false_eq_true, if_false] at e
      refine probe_free hd hne f _ j d ?_ e
      unfold SetTable.advance
      split
      · exact hp
      · exact hp
theorem tab_put {led : Bool} {t : SetTable} {j : Nat} (h : TabOk led t) (hs : t.slot j = .empty) : TabOk led (t.put j).1 := by
  refine ⟨?_, h.led, fun z => ?_⟩
  · show (if SetTable.has t.dummies j then _ else t.dummies) = #[]
    rw [h.dum, has_none]
    rfl
  · refine asc_insert (h.asc z) fun e => ?_
    unfold SetTable.slot at hs
    dsimp only at hs
    rw [if_pos (by rw [e]; simp)] at hs
    cases hs
theorem tab_layNew {led : Bool} {t : SetTable} (ht : TabOk led t) (es : Array (Int × Value)) (h : Int) (x : Value) : TabOk led (layNew t es h x).2.1 := by
  unfold layNew
  split
  · rename_i slot wd e
    refine tab_or ?_ _
    unfold SetTable.freeSlot at e
    split at e
    · rename_i j d q
      obtain ⟨hd, hs⟩ := probe_free ht.dum (fun i => by simp; omega) _ _ _ _ rfl q
      subst hd
      simp only [Option.getD_none, Option.isSome_none, Option.some.injEq, Prod.mk.injEq] at e
      obtain ⟨rfl, _⟩ := e
      exact tab_put ht hs
    · cases e
  · exact tab_standIn ht _
theorem asc_laid {mask : Nat} (g : Nat → Option Nat) : Asc ((((List.range (mask + 1)).filterMap fun j => (g j).map (j, ·)).map (·.1)).toArray) := by
  unfold Asc
  rw [List.toList_toArray, List.map_filterMap]
  refine List.Pairwise.filterMap (R := (· < ·)) _ (fun a b hab x hx y hy => ?_) List.pairwise_lt_range
  cases ga : g a with
  | none => rw [ga] at hx; simp at hx
  | some u =>
    cases gb : g b with
    | none => rw [gb] at hy; simp at hy
    | some v =>
      rw [ga] at hx; rw [gb] at hy
      simp at hx hy
      omega
theorem tab_relay {led : Bool} {t : SetTable} (ht : TabOk led t) (es : Array (Int × Value)) (wanted : Nat) : TabOk led (relayAll t es wanted).2.1 := by
  unfold relayAll
  split
  · rename_i t' order e
    dsimp only
    split
    · unfold SetTable.relaid SetTable.laid at e
      cases o : SetTable.layClean (SetTable.sizeAbove wanted - 1) (es.map (·.1)) with
      | none => rw [o] at e; cases e
      | some owner =>
        rw [o] at e
        simp only [Option.bind_eq_bind, Option.bind_some, Option.pure_def, Option.some.injEq, Prod.mk.injEq] at e
        obtain ⟨rfl, _⟩ := e
        exact ⟨rfl, ht.led, fun _ => asc_laid _⟩
    · exact tab_standIn ht _
  · exact tab_standIn ht _
end L2

namespace L2
open PySem PySem.Spec PySem.W PyProof.Rows

/-! ### a set of ints, its table led -/
def byT (w : World) : Bool := w.params.followText "set-order"
def EntI (P : Program) (w : World) (e : Int × Value) (k : Int) : Prop := e.1 = (intKind P w).hash k ∧ ∃ t, e.2 = .int k t
def SetG (P : Program) (w : World) (h : Heap) (a : Addr) (ns : List Int) : Prop :=
  ∃ o es ep t ks, h.get? a = some o ∧ o.ExactSet ∧ o.data = .set es ep t ∧ Paired (EntI P w) es.toList ks ∧ List.Perm ks ns ∧ ns.Nodup ∧ t.fits es.size = true ∧ TabOk (!byT w) t
theorem pairedP_length {α β : Type} {F : α → β → Prop} : ∀ {l : List α} {r : List β}, Paired F l r → l.length = r.length
  | _, _, .nil => rfl
  | _, _, .cons _ t => by simp [pairedP_length t]
section
variable {P : Program} {w : World} {A : Around} {E : Value → Shared → Prop} {s : Shared} {a : Addr} {ns : List Int}
theorem elems_of : ∀ {l : List (Int × Value)} {ks : List Int}, Paired (EntI P w) l ks → ElemsOf (intKind P w) l
  | _, _, .nil => fun e he => nomatch he
  | _, _, .cons ⟨h1, t, h2⟩ r => fun e he => by
    rcases List.mem_cons.mp he with z | z
    · rw [z]
      exact ⟨⟨_, by rw [h2]; exact intKind_is _ _ _ _, h1⟩, by rw [h2]; rfl⟩
    · exact elems_of r e z
theorem is_of {k k' : Int} {v : Value} {t : Tok} (e : v = .int k' t) : (intKind P w).is k v = decide (k = k') := by
  rw [e]
  exact KeyKind.is_eq_decide (intKind_is _ _ _ _) k
/-- the scan meets k just where it is there -/
theorem scan_mem {k : Int} : ∀ {l : List (Int × Value)} {ks : List Int}, Paired (EntI P w) l ks → ((l.findIdx? fun e => (intKind P w).is k e.2).isSome = true ↔ k ∈ ks)
  | _, _, .nil => by simp
  | _, _, .cons (a := e) (b := k') ⟨h1, t, h2⟩ r => by
    have ih := scan_mem (k := k) r
    rw [List.findIdx?_cons, is_of h2]
    by_cases z : k = k'
    · subst z
      simp
    · rw [decide_eq_false z, if_neg Bool.false_ne_true, Option.isSome_map, ih, List.mem_cons]
      exact ⟨.inr, fun h => h.resolve_left z⟩
theorem paired_perm {l l' : List (Int × Value)} {ks : List Int} (p : List.Perm l' l) (h : Paired (EntI P w) l ks) : ∃ ks', List.Perm ks' ks ∧ Paired (EntI P w) l' ks' := by
  induction p generalizing ks with
  | nil => cases h; exact ⟨[], .nil, .nil⟩
  | cons x _ ih =>
    cases h with
    | cons hx r =>
      obtain ⟨ks', q, r'⟩ := ih r
      exact ⟨_, q.cons _, .cons hx r'⟩
  | swap x y l =>
    cases h with
    | cons hx r =>
      cases r with
      | cons hy r => exact ⟨_, .swap _ _ _, .cons hy (.cons hx r)⟩
  | trans _ _ ih1 ih2 =>
    obtain ⟨k2, q2, r2⟩ := ih2 h
    obtain ⟨k1, q1, r1⟩ := ih1 r2
    exact ⟨k1, q1.trans q2, r1⟩
theorem paired_end {x : Int × Value} {k : Int} (hx : EntI P w x k) : ∀ {l : List (Int × Value)} {ks : List Int}, Paired (EntI P w) l ks → Paired (EntI P w) (l ++ [x]) (ks ++ [k])
  | _, _, .nil => .cons hx .nil
  | _, _, .cons h t => .cons h (paired_end hx t)
/-- the set's new state is stored -/
theorem setG_store {o : Obj} {es es' : Array (Int × Value)} {ep : Nat} {t t' : SetTable} {ks : List Int} (q : s.heap.get? a = some o) (x : o.ExactSet) (d : o.data = .set es ep t) (r : Paired (EntI P w) es'.toList ks) (p : List.Perm ks ns) (nd : ns.Nodup) (f : t'.fits es'.size = true) (tb : TabOk (!byT w) t') :
    (s.heap.update a (Obj.putSet es' t')).get? a = some { o with data := .set es' (ep + 1) t' } ∧ SetG P w (s.heap.update a (Obj.putSet es' t')) a ns := by
  have g : (s.heap.update a (Obj.putSet es' t')).get? a = some { o with data := .set es' (ep + 1) t' } := by
    have z := Heap.get?_update_self (Obj.putSet es' t') q (by rw [putSet_of es' t' d]; rfl)
    rw [putSet_of es' t' d] at z
    exact z
  exact ⟨g, _, es', ep + 1, t', ks, g, x, rfl, r, p, nd, f, tb⟩
theorem setG_tail {g : Bool → Sem Unit} (hg : ∀ (b : Bool) (s1 : Shared) (Q' : Unit → Shared → Prop), Q' () s1 → wpAny (model P w) A (g b) Q' E s1) {o : Obj} {es es1 : Array (Int × Value)} {ep : Nat} {t t2 : SetTable} {ks : List Int} {wd : Bool} {R : Option Bool → Shared → Prop}
    (q : s.heap.get? a = some o) (x : o.ExactSet) (d : o.data = .set es ep t) (r : Paired (EntI P w) es1.toList ks) (p : List.Perm ks ns) (nd : ns.Nodup) (lb : es1.size < scanBound) (f : t2.fits es1.size = true) (tb : TabOk (!byT w) t2)
    (k : ∀ h', Heap.SameBut a s.heap h' → SetG P w h' a ns → R (some true) { s with heap := h' }) :
    wpAny (model P w) A (do storeSet a es1 t2; if (!wd && t2.tooFull) = true then (do g (relayAll t2 es1 (SetTable.grown es1.size)).2.2; storeSet a (relayAll t2 es1 (SetTable.grown es1.size)).1 (relayAll t2 es1 (SetTable.grown es1.size)).2.1; pure (some true)) else pure (some true)) R E s := by
  obtain ⟨q1, S1⟩ := setG_store (s := s) q x d r p nd f tb
  have b1 := Heap.SameBut.update s.heap a (Obj.putSet es1 t2)
  refine wpAny_bind (wpAny_storeSet_of q d ?_ (fits_of_scanBound lb))
  split
  · have rp := relayAll_perm t2 es1 (SetTable.grown es1.size)
    have rf := relayAll_fits t2 es1 (SetTable.grown es1.size)
    have rt := tab_relay tb es1 (SetTable.grown es1.size)
    generalize relayAll t2 es1 (SetTable.grown es1.size) = Y at rp rf rt ⊢
    obtain ⟨es2, t3, gv⟩ := Y
    dsimp only at rp rf rt ⊢
    obtain ⟨ks2, p2, r2⟩ := paired_perm rp r
    have zz : es2.size = es1.size := by rw [← Array.length_toList, rp.length_eq, Array.length_toList]
    refine wpAny_bind (hg _ _ _ (wpAny_bind (wpAny_storeSet_of q1 rfl ?_ (fits_of_scanBound (by rw [zz]; exact lb)))))
    obtain ⟨_, S2⟩ := setG_store (s := { s with heap := s.heap.update a (Obj.putSet es1 t2) }) q1 x rfl r2 (p2.trans p) nd rf rt
    exact wpAny_pure (k _ (b1.trans (Heap.SameBut.update _ a _)) S2)
  · exact wpAny_pure (k _ b1 S1)
def addI (k : Int) (ns : List Int) : List Int := if k ∈ ns then ns else ns ++ [k]
theorem setG_add {k : Int} {tk : Tok} {Q : Bool → Shared → Prop} (S : SetG P w s.heap a ns) (lb : ns.length + 1 < scanBound) (h : ∀ b h', Heap.SameBut a s.heap h' → SetG P w h' a (addI k ns) → Q b { s with heap := h' }) :
    wpAny (model P w) A (setAddHashed a (.int k tk) ((intKind P w).hash k)) Q E s := by
  obtain ⟨o, es, ep, t, ks, q, x, d, r, p, nd, f, tb⟩ := S
  have el := elems_of r
  have hz : es.size = ns.length := by rw [← Array.length_toList, pairedP_length r, p.length_eq]
  have kk : (intKind P w).is k (.int k tk) = true := intKind_is _ _ _ _
  unfold setAddHashed setAddHashedIn
  refine (wpAny_holding (wpAny_bind (wpAny_setState_of q d f ?_)))
  dsimp only
  rw [byScan_of (knd := intKind P w) (x := .int k tk) rfl (by omega) el]
  simp only [↓reduceIte]
  unfold setAddByScan
  refine wpAny_bind (wpAny_bind (wpAny_rule (wpAny_bind (wpAny_setScan_of kk q d f el ?_))))
  have sm := scan_mem (k := k) r
  cases sc : List.findIdx? (fun e => (intKind P w).is k e.2) es.toList with
  | some j =>
    dsimp only
    have mem : k ∈ ns := p.mem_iff.mp (sm.mp (by rw [sc]; rfl))
    refine wpAny_pure (wpAny_pure ?_)
    have e : addI k ns = ns := if_pos mem
    exact h false s.heap (Heap.SameBut.refl a s.heap) (by rw [e]; exact ⟨o, es, ep, t, ks, q, x, d, r, p, nd, f, tb⟩)
  | none =>
    dsimp only
    have nm : k ∉ ns := fun z => by
      have := sm.mpr (p.mem_iff.mpr z)
      rw [sc] at this; cases this
    have e : addI k ns = ns ++ [k] := if_neg nm
    have gw : ∀ (b : Bool) {s1 : Shared} {Q' : Unit → Shared → Prop}, Q' () s1 → wpAny (model P w) A (match b with | true => rule "set.scan.the-table-gave-way" | false => pure ()) Q' E s1 := fun b s1 Q' z => by cases b <;> first | exact wpAny_pure z | exact wpAny_rule z
    have lp := layNew_perm t es ((intKind P w).hash k) (.int k tk)
    have lf := layNew_fits t es ((intKind P w).hash k) (.int k tk)
    have lt := tab_layNew tb es ((intKind P w).hash k) (.int k tk)
    generalize layNew t es ((intKind P w).hash k) (.int k tk) = Y at lp lf lt ⊢
    obtain ⟨es1, t1, wd, gv⟩ := Y
    dsimp only at lp lf lt ⊢
    rw [Array.toList_push] at lp
    obtain ⟨ks1, p1, r1⟩ := paired_perm lp (paired_end (x := ((intKind P w).hash k, .int k tk)) (k := k) ⟨rfl, tk, rfl⟩ r)
    have pp : List.Perm ks1 (addI k ns) := by rw [e]; exact p1.trans (p.append_right _)
    have nn : (addI k ns).Nodup := by
      rw [e]
      refine List.nodup_append.mpr ⟨nd, by simp, fun y hy z hz => ?_⟩
      rw [List.mem_singleton.mp hz]
      intro ez
      exact nm (ez ▸ hy)
    have lb1 : es1.size < scanBound := by
      rw [← Array.length_toList, lp.length_eq, List.length_append, Array.length_toList, hz]
      exact lb
    have fin : ∀ h', Heap.SameBut a s.heap h' → SetG P w h' a (addI k ns) → Q true { s with heap := h' } := fun h' => h true h'
    refine wpAny_bind (gw _ ?_)
    have nog : ∀ (b : Bool) (s1 : Shared) (Q' : Unit → Shared → Prop), Q' () s1 → wpAny (model P w) A (match b with | true => rule "set.scan.the-table-gave-way" | false => pure ()) Q' E s1 := fun b s1 Q' z => gw b z
    split
    · refine wpAny_bind ?_
      rw [hashByValue_scannable 8 (x := .int k tk) rfl]
      refine wpAny_pure (setG_tail nog q x d r1 pp nn lb1 ?_ ?_ fun h' sb S' => ?_)
      · split
        · exact lf
        · exact SetTable.fits_plain_off lf
      · split
        · exact lt
        · exact ⟨lt.dum, lt.led, fun z => by cases z⟩
      · dsimp only
        exact wpAny_pure (fin h' sb S')
    · refine wpAny_bind (wpAny_pure ?_)
      simp only [↓reduceIte]
      refine setG_tail nog q x d r1 pp nn lb1 lf lt fun h' sb S' => ?_
      dsimp only
      exact wpAny_pure (fin h' sb S')
end
end L2

namespace L2
open PySem PySem.Spec PySem.W PyProof.Rows

theorem SetG.keep {P : Program} {w : World} {h h' : Heap} {a : Addr} {ns : List Int} (S : SetG P w h a ns) (k : ∀ o, h.get? a = some o → h'.get? a = some o) : SetG P w h' a ns :=
  let ⟨o, es, ep, t, ks, q, r⟩ := S; ⟨o, es, ep, t, ks, k o q, r⟩
/-- each once, in the order in which they were met -/
def onceL (ns : List Int) : List Int := ns.foldl (fun acc k => addI k acc) []
def onceN (val : Nat → Int) (i : Nat) : List Int := onceL ((List.range i).map val)
theorem onceN_succ (val : Nat → Int) (i : Nat) : onceN val (i + 1) = addI (val i) (onceN val i) := by
  unfold onceN onceL
  rw [List.range_succ, List.map_append, List.foldl_append]
  rfl
theorem addI_len (k : Int) (ns : List Int) : (addI k ns).length ≤ ns.length + 1 := by
  unfold addI
  split
  · exact Nat.le_succ _
  · rw [List.length_append, List.length_singleton]; exact Nat.le_refl _
theorem onceN_len (val : Nat → Int) : ∀ i, (onceN val i).length ≤ i
  | 0 => Nat.le_refl _
  | i + 1 => by
    rw [onceN_succ]
    have := addI_len (val i) (onceN val i)
    have := onceN_len val i
    omega
theorem addI_mem {k x : Int} {ns : List Int} : x ∈ addI k ns ↔ x = k ∨ x ∈ ns := by
  unfold addI
  split
  · rename_i h
    exact ⟨.inr, fun z => z.elim (fun e => e ▸ h) id⟩
  · simp [or_comm]
theorem foldl_mem {x : Int} : ∀ {l acc : List Int}, x ∈ l.foldl (fun acc k => addI k acc) acc ↔ x ∈ l ∨ x ∈ acc
  | [], acc => by simp
  | k :: l, acc => by
    rw [List.foldl_cons, foldl_mem, addI_mem, List.mem_cons]
    constructor
    · rintro (h | h | h)
      · exact .inl (.inr h)
      · exact .inl (.inl h)
      · exact .inr h
    · rintro ((h | h) | h)
      · exact .inr (.inl h)
      · exact .inl h
      · exact .inr (.inr h)
theorem once_mem {x : Int} {ns : List Int} : x ∈ onceL ns ↔ x ∈ ns := by
  unfold onceL
  rw [foldl_mem]
  simp
section
variable {P : Program} {w : World} {A : Around} {E : Value → Shared → Prop} {s : Shared}
theorem set_loop {I S : Addr} {fp wr : List Addr} {n : Nat} {Pv : Nat → Value → Prop} {St : Nat → Heap → Prop} {R : Result → Shared → Prop} (W : Walks P w A.in1 I fp wr n Pv St) (hSf : S ∉ fp) (val : Nat → Int) (hval : ∀ i v, Pv i v → ∃ t, v = .int (val i) t) (hb : n + 1 < scanBound) :
    ∀ (k i : Nat) (s : Shared), n - i = k → i ≤ n → St i s.heap → SetG P w s.heap S (onceN val i) →
      (∀ h' tk, (∀ b o, b ∉ S :: wr → s.heap.get? b = some o → h'.get? b = some o) → SetG P w h' S (onceN val n) → R (.ok (.ret .none)) { s with heap := h', toks := tk }) →
      codeAny (model P w) A (.builtin "set.update.loop" ⟨[.ref S, .ref I], []⟩) R s := by
  have hSw : S ∉ wr := fun h => hSf (W.sub _ h)
  intro k
  induction k with
  | zero =>
    intro i s hk hi st hS hR
    have ei : i = n := by omega
    subst ei
    refine (codeAny_builtin F.entry_set_update_loop (?_ : wpAny _ _ _ _ _ s))
    rw [(Around.under_plainId F.plain_set_update_loop _)]
    show wpAny _ A.in1 (pyNext (.ref I) >>= _) _ _ s
    refine wpAny_bind (W.done s _ _ st fun h' tk kk => (?_ : wpAny _ A.in1 (ret Value.none) _ _ _))
    exact wpAny_pure (hR h' tk (fun b o hb e => kk b o (fun z => hb (List.mem_cons_of_mem _ z)) e) (hS.keep fun o e => kk _ _ hSw e))
  | succ k ih =>
    intro i s hk hi st hS hR
    refine (codeAny_builtin F.entry_set_update_loop (?_ : wpAny _ _ _ _ _ s))
    rw [(Around.under_plainId F.plain_set_update_loop _)]
    show wpAny _ A.in1 (pyNext (.ref I) >>= _) _ _ s
    refine wpAny_bind (W.item i s _ _ (by omega) st fun v h' tk hP st' kk => ?_)
    obtain ⟨t, rfl⟩ := hval i v hP
    have hS1 := hS.keep (h' := h') fun o e => kk _ _ hSw e
    refine (wpAny_bind (wpAny_holding (?_ : wpAny _ A.in1 (setAdd S (.int (val i) t)) _ _ { s with heap := h', toks := tk })))
    unfold setAdd
    refine wpAny_holding (wpAny_bind ((intKind P w).pyHash (k := val i) (intKind_is _ _ _ _) ?_))
    have hl := onceN_len val i
    refine setG_add (s := { s with heap := h', toks := tk + 1 }) hS1 (by omega) fun b h2 sb hS2 => ?_
    have so : ∀ b, b ≠ S → h2.get? b = h'.get? b := fun b z => sb.2 b z
    refine wpAny_pure ⟨plainId_quiet F.plain_set_update_loop _, ih (i + 1) { s with heap := h2, toks := tk + 1 } (by omega) (by omega) (W.frame _ _ _ st' fun b hb o e => ?_) (by rw [onceN_succ]; exact hS2) fun h3 tk3 k3 hS3 => ?_⟩
    · rw [so b (fun z => hSf (z ▸ hb))]; exact e
    · refine hR h3 tk3 (fun b o hb e => k3 b o hb ?_) hS3
      rw [so b (fun z => hb (z ▸ List.mem_cons_self))]
      exact kk b o (fun z => hb (List.mem_cons_of_mem _ z)) e
abbrev setNil (w : World) : Obj := { cls := .type "set", dict := none, data := .set #[] 0 (.fresh 0 0 (!byT w)) }
theorem setG_nil {h : Heap} {a : Addr} (e : h.get? a = some (setNil w)) : SetG P w h a [] := ⟨_, #[], 0, _, [], e, ⟨rfl, rfl, rfl⟩, rfl, .nil, .nil, .nil, rfl, tab_fresh _⟩
theorem set_new (x : Value) {Q : Value → Shared → Prop} (h : Q (.ref s.heap.objs.size) { s with heap := s.heap.push (setNil w) }) : codeAny (model P w) A (.call (.builtin "set.__new__") ⟨[.type "set", x], []⟩) (wants Q E) s := by
  refine codeAny_of_tree (?_ : wpAny _ A.in1 (do checkBuiltinCall "set.__new__" ⟨[.type "set", x], []⟩; again (.builtin "set.__new__" ⟨[.type "set", x], []⟩)) _ _ s)
  refine wpAny_bind (wpAny_of_eq (F.newCall_set_1 x) (wpAny_pure ⟨plainId_quiet F.plain_set_new _, (codeAny_builtin F.entry_set_new (?_ : wpAny _ _ _ _ _ s))⟩))
  rw [(Around.under_plainId F.plain_set_new _)]
  unfold Builtin.«set.__new__» Builtin.Frozenset.newClass
  have hsub := sub_set_self
  obtain ⟨hp, g, d, tk, os⟩ := s
  dsimp only
  wp_walk
  refine wpAny_askSetting (wpAny_pure ?_)
  dsimp only
  simp only [newObj]
  exact wpAny_bind (wpAny_alloc (wpAny_pure (wpAny_pure h)))
set_option maxHeartbeats 6000000 in
theorem set_call {l : Addr} {items : Array Value} {ns : List Int} {Q : Value → Shared → Prop} (hh : A.handled = none) (hl : s.heap.IsList l items) (hi : IntsAre items.toList ns) (hb : items.size + 1 < scanBound)
    (h : ∀ (h' : Heap) (tk : Nat), SetG P w h' s.heap.objs.size (onceN (fun i => ns.getD i 0) items.size) → (∀ b o, s.heap.get? b = some o → h'.get? b = some o) → Q (.ref s.heap.objs.size) { s with heap := h', toks := tk }) :
    wpAny (model P w) A (call (.type "set") [.ref l]) Q E s := by
  obtain ⟨c, tl, hmro⟩ := F.called_set.mro
  have hmade := F.called_set.made
  have hsub := F.called_set.sub
  refine wpAny_call (codeAny_of_tree (?_ : wpAny _ _ (callAny (.type "set") _) _ _ _))
  refine wpAny_pure ⟨Code.quiet_builtin _ (by decide +kernel), (codeAny_builtin F.entry_type_call (?_ : wpAny _ _ _ _ _ s))⟩
  rw [Around.under_plain (weight_type_call_type "set" [.ref l] []) rfl]
  have h1 := F.called_set.notType
  have h2 := F.called_set.canCreate
  have hct := F.typeCall_set_1 (.ref l)
  repeat (any_goals (first | assumption | wp_step))
  refine codeAny_mono (set_new (.ref l) (E := E) (Q := fun obj s₁ => obj = .ref s.heap.objs.size ∧ s₁ = { s with heap := s.heap.push (setNil w) }) ⟨rfl, rfl⟩) fun r s₁ hr => ?_
  cases r with
  | error e => exact hr
  | ok fl =>
    cases fl with
    | ret obj =>
      obtain ⟨rfl, rfl⟩ := hr
      have hS : (s.heap.push (setNil w)).get? s.heap.objs.size = some (setNil w) := Heap.get?_push_size _ rfl
      have hT : Shared.TypeIs { s with heap := s.heap.push (setNil w) } (.ref s.heap.objs.size) "set" := ⟨_, hS, rfl⟩
      have hli := F.called_set.init.lookup
      have hbi := F.called_set.init.bind (.ref s.heap.objs.size)
      repeat (any_goals (first | assumption | wp_step))
      refine codeAny_mono (codeAny_call_builtin (R := wants (fun r s₂ => r = .none ∧ ∃ h' tk, s₂ = { s with heap := h', toks := tk } ∧ SetG P w h' s.heap.objs.size (onceN (fun i => ns.getD i 0) items.size) ∧ (∀ b o, s.heap.get? b = some o → h'.get? b = some o)) E) F.called_set.init.plain F.entry_set_init (check_set_init_1 hT ?_)) fun r₂ s₂ hr₂ => ?_
      · obtain ⟨ol, hol, hcl, nl, hdl⟩ := hl
        obtain ⟨ocls, odict, odata, oslots⟩ := ol
        simp only at hcl hdl
        subst hcl; subst hdl
        have hol' : (s.heap.push (setNil w)).get? l = some { cls := .type "list", dict := odict, data := .seq items nl, slots := oslots } := Heap.get?_push_of_some _ hol
        have hsls := F.sub_list_set
        have hslf := F.sub_list_frozenset
        have hne : (Value.type "list" == Value.type "dict") = false := by decide
        have hl1 : (s.heap.push (setNil w)).IsList l items := ⟨_, hol', rfl, nl, rfl⟩
        unfold Builtin.«set.__init__» noKeywords Builtin.Frozenset.updateFrom
        generalize hPI : pyIter = PI
        wp_walk
        subst hPI
        refine (wpAny_pyIter_list hl1 (wpAny_bind (wpAny_runValue ?_)))
        have hlS : l < s.heap.objs.size := Heap.lt_size hol
        have hh3 : A.in1.in1.in1.handled = none := by simp [hh]
        have z1 : (s.heap.push (setNil w)).objs.size = s.heap.objs.size + 1 := Heap.size_push _ _
        have hneI : l ≠ (s.heap.push (setNil w)).objs.size := by rw [z1]; exact Nat.ne_of_lt (Nat.lt_succ_of_lt hlS)
        have hSf : s.heap.objs.size ∉ [(s.heap.push (setNil w)).objs.size, l] := by
          rw [z1]; simp only [List.mem_cons, List.mem_singleton, List.not_mem_nil, or_false, not_or]
          exact ⟨Nat.ne_of_lt (Nat.lt_succ_self _), Nat.ne_of_gt hlS⟩
        have hval : ∀ (i : Nat) (v : Value), items[i]? = some v → ∃ t, v = .int ((fun i => ns.getD i 0) i) t := fun i v hv => IntsAre.int_at hi i v (by rw [Array.getElem?_toList]; exact hv)
        refine set_loop (Walks.list hh3 _ l hneI items) hSf (fun i => ns.getD i 0) hval hb (items.size - 0) 0 _ (by omega) (Nat.zero_le _) ⟨⟨_, Heap.get?_push_size _ rfl, rfl, rfl⟩, (hl1.push _)⟩ (setG_nil (Heap.get?_push_of_some _ hS)) fun h' tk kk S' => ?_
        refine (wpAny_pure (?_ : wpAny _ _ (ret Value.none) _ _ _))
        refine wpAny_pure ⟨rfl, h', tk, rfl, S', fun b o e => kk b o ?_ (Heap.get?_push_of_some _ (Heap.get?_push_of_some _ e))⟩
        have hb := Heap.lt_size e
        rw [z1]
        simp only [List.mem_cons, List.mem_singleton, List.not_mem_nil, or_false, not_or]
        exact ⟨Nat.ne_of_lt hb, Nat.ne_of_lt (Nat.lt_succ_of_lt hb)⟩
      · cases r₂ with
        | error e => exact hr₂
        | ok fl₂ =>
          cases fl₂ with
          | ret r =>
            obtain ⟨rfl, h', tk, rfl, hS', hk'⟩ := hr₂
            repeat (any_goals (first | assumption | wp_step))
            exact h _ _ hS' hk'
          | _ => exact hr₂.elim
    | _ => exact hr.elim
end
end L2

namespace L2
open PySem PySem.Spec PySem.W PyProof.Rows

namespace SF
theorem slot_next : Slot "set_iterator" "__next__" "set_iterator.__next__" :=
  .of (owner := "set_iterator") (n := "__next__") (by rw [typeLookup_type, builtinLookup_eq_fast]; kernel_rfl) (by decide +kernel) (by decide +kernel) (by decide +kernel) (by first | exact .inl (by decide +kernel) | exact .inr (by decide +kernel)) (by rw [isSubtype_type]; kernel_rfl)
theorem entry_next : entryFor table "set_iterator.__next__" = some Builtin.«set_iterator.__next__» := entryFor_of_tree (by kernel_rfl)
theorem args_next (a : Value) : argsOk "set_iterator.__next__" ⟨[a], []⟩ := by unfold argsOk; kernel_rfl
theorem entry_iter : entryFor table "set.__iter__" = some Builtin.«frozenset.__iter__» := entryFor_alias (id' := "frozenset.__iter__") (by kernel_rfl) rfl (by decide +kernel) (by kernel_rfl)
theorem len_set : typeLookup (.type "set") "__len__" = pure (some (.builtin "set.__len__")) := by rw [typeLookup_type, builtinLookup_eq_fast]; kernel_rfl
end SF

/-! ### draws, picks: the members, each once -/
theorem erase_perm {α : Type} {l : List α} {i : Nat} (h : i < l.length) : List.Perm (l[i] :: l.eraseIdx i) l := by
  have e : l.take i ++ l[i] :: l.drop (i + 1) = l := by rw [List.getElem_cons_drop, List.take_append_drop]
  rw [List.eraseIdx_eq_take_drop_succ]
  have p : List.Perm (l[i] :: (l.take i ++ l.drop (i + 1))) (l.take i ++ l[i] :: l.drop (i + 1)) := List.perm_middle.symm
  rw [e] at p
  exact p
section
variable {M : Model} {A : Around} {E : Value → Shared → Prop} {s : Shared}
theorem choose_any {src : Source} {n : Nat} {Q : Nat → Shared → Prop} (hn : n ≠ 0) (h : ∀ i d, i < n → Q i { s with drawn := d }) : wpAny M A (choose src n) Q E s :=
  fun Γ p _ => ⟨hn, h _ _ (Nat.mod_lt _ (Nat.pos_of_ne_zero hn))⟩
theorem draw_perm {α : Type} : ∀ (n : Nat) (xs : List α) (s : Shared) {Q : List α → Shared → Prop}, xs.length = n → (∀ ys d, List.Perm ys xs → Q ys { s with drawn := d }) → wpAny M A (drawOrder n xs) Q E s
  | 0, xs, s, Q, hl, h => by
    have e : xs = [] := List.length_eq_zero_iff.mp hl
    subst e
    exact wpAny_pure (h [] s.drawn .nil)
  | n + 1, [], s, Q, hl, h => by cases hl
  | n + 1, x :: xs, s, Q, hl, h => by
    unfold drawOrder
    refine wpAny_bind (choose_any (by simp) fun i d hi => ?_)
    have e : (x :: xs)[i]? = some ((x :: xs)[i]) := List.getElem?_eq_getElem hi
    rw [e]
    dsimp only
    refine wpAny_bind (draw_perm n _ _ (by rw [List.length_eraseIdx, if_pos hi, hl]; rfl) fun ys d' hp => wpAny_pure (h _ d' ?_))
    exact (hp.cons _).trans (erase_perm hi)
end
theorem pick_go {α : Type} (next : Nat → Nat) : ∀ (n k : Nat) (left : List α) (out : Array α), left.length = n → ∃ ys, List.Perm ys left ∧ (pickOrder.go next n k left out).toList = out.toList ++ ys
  | 0, k, left, out, hl => by
    have e : left = [] := List.length_eq_zero_iff.mp hl
    subst e
    exact ⟨[], .nil, by unfold pickOrder.go; simp⟩
  | n + 1, k, left, out, hl => by
    have hi : next k % left.length < left.length := Nat.mod_lt _ (by omega)
    unfold pickOrder.go
    rw [List.getElem?_eq_getElem hi]
    dsimp only
    obtain ⟨ys, hp, e⟩ := pick_go next n (k + 1) (left.eraseIdx (next k % left.length)) (out.push left[next k % left.length]) (by rw [List.length_eraseIdx, if_pos hi, hl]; rfl)
    exact ⟨left[next k % left.length] :: ys, (hp.cons _).trans (erase_perm hi), by rw [e]; simp⟩
theorem pick_perm {α : Type} (next : Nat → Nat) (xs : Array α) : List.Perm (pickOrder next xs).toList xs.toList := by
  obtain ⟨ys, hp, e⟩ := pick_go next xs.size 0 xs.toList #[] (by simp)
  unfold pickOrder
  rw [e]
  simpa using hp

/-! ### a set is walked -/
def slotAt (place : Array Nat) (i : Nat) : Nat := if i = 0 then 0 else place.getD (i - 1) 0 + 1
def ModeG (P : Program) (w : World) (h : Heap) (a : Addr) (es : Array (Int × Value)) (ep : Nat) (t : SetTable) (ks ord : List Int) (first : Value) (i : Nat) : Prop :=
  (byT w = true ∧ (∃ f u, first = .int f u) ∧ Paired (EntI P w) (pickOrder (w.params.setOrder a ep) es).toList ord) ∨
  (byT w = false ∧ (!t.plain && decide (es.size > 1)) = false ∧ Asc t.place ∧ ord = ks ∧ first = rawInt (slotAt t.place i)) ∨
  (byT w = false ∧ ∃ (tp : Addr) (pl : List Nat), first = .ref tp ∧ IsTup h tp (pl.map fun j => rawInt (j : Nat)).toArray ∧ List.Perm pl (List.range es.size) ∧ ord = pl.map fun j => ks.getD j 0)
def ItG (P : Program) (w : World) (h : Heap) (it a : Addr) (ord : List Int) (i : Nat) : Prop :=
  ∃ o es ep t ks first, h.get? a = some o ∧ o.cls = .type "set" ∧ o.data = .set es ep t ∧ t.fits es.size = true ∧ Paired (EntI P w) es.toList ks ∧ t.led = (!byT w) ∧ ord.length = es.size ∧ a ≠ it ∧
    h.get? it = some { cls := .type "set_iterator", data := .fields #[first, rawInt i, .ref a, rawInt es.size, rawInt ep] } ∧ ModeG P w h a es ep t ks ord first i
section
variable {P : Program} {w : World} {A : Around} {E : Value → Shared → Prop} {s : Shared} {it a : Addr} {ord : List Int} {i : Nat}
theorem ItG.keep {h h' : Heap} (g : ItG P w h it a ord i) (k : ∀ b o, o.cls ≠ .type "list" → h.get? b = some o → h'.get? b = some o) : ItG P w h' it a ord i := by
  obtain ⟨o, es, ep, t, ks, first, q, c, d, f, r, l, n, ne, e, m⟩ := g
  refine ⟨o, es, ep, t, ks, first, k _ _ (by rw [c]; simp) q, c, d, f, r, l, n, ne, k _ _ (by simp) e, ?_⟩
  rcases m with m | m | ⟨m1, tp, pl, m2, ⟨ot, e1, e2, e3⟩, m4⟩
  · exact .inl m
  · exact .inr (.inl m)
  · exact .inr (.inr ⟨m1, tp, pl, m2, ⟨ot, k _ _ (by rw [e2]; simp) e1, e2, e3⟩, m4⟩)
theorem paired_at {es : List (Int × Value)} {ks : List Int} (r : Paired (EntI P w) es ks) {j : Nat} (hj : j < ks.length) : ∃ hh t, es[j]? = some (hh, .int ks[j] t) := by
  induction r generalizing j with
  | nil => simp at hj
  | cons h _ ih =>
    cases j with
    | zero =>
      obtain ⟨h1, t, h2⟩ := h
      rename_i e k _ _ _
      obtain ⟨e1, e2⟩ := e
      simp only at h2
      subst h2
      exact ⟨e1, t, rfl⟩
    | succ j =>
      obtain ⟨hh, t, e⟩ := ih (j := j) (by simpa using hj)
      exact ⟨hh, t, by simpa using e⟩
theorem byText_wp {Q : Bool → Shared → Prop} (h : Q (byT w) s) : wpAny (model P w) A setsByText Q E s := by
  unfold setsByText
  exact wpAny_bind (wpAny_askSetting (wpAny_pure h))
theorem next_text {o : Obj} {es : Array (Int × Value)} {ep slot given : Nat} {t : SetTable} {Q : Option (Value × Nat) → Shared → Prop} (q : s.heap.get? a = some o) (d : o.data = .set es ep t) (f : t.fits es.size = true) (hb : byT w = true)
    (h : Q (((pickOrder (w.params.setOrder a ep) es)[given]?).map fun e => (e.2, slot)) s) : wpAny (model P w) A (setNext a slot given ep) Q E s := by
  unfold setNext
  refine wpAny_bind (wpAny_setState_of q d f (wpAny_bind (byText_wp ?_)))
  dsimp only
  rw [hb, if_pos rfl, if_neg (by simp)]
  unfold setWalk
  refine wpAny_bind (wpAny_bind (wpAny_setState_of q d f (wpAny_bind (byText_wp ?_))))
  rw [hb, if_pos rfl]
  exact wpAny_bind (wpAny_askSetting (wpAny_pure (wpAny_pure h)))
theorem next_plain {o : Obj} {es : Array (Int × Value)} {ep slot given : Nat} {t : SetTable} {Q : Option (Value × Nat) → Shared → Prop} (q : s.heap.get? a = some o) (d : o.data = .set es ep t) (f : t.fits es.size = true) (hb : byT w = false) (hl : t.led = true) (hd : (!t.plain && decide (es.size > 1)) = false)
    (h : Q (match es[SetTable.below t.place slot]?, t.place[SetTable.below t.place slot]? with | some (_, x), some j => some (x, j + 1) | _, _ => none) s) : wpAny (model P w) A (setNext a slot given ep) Q E s := by
  unfold setNext
  refine wpAny_bind (wpAny_setState_of q d f (wpAny_bind (byText_wp ?_)))
  dsimp only
  rw [hb, if_neg Bool.false_ne_true]
  show wpAny _ _ (if (!t.plain && decide (es.size > 1)) = true then _ else _) _ _ _
  rw [hd, if_neg Bool.false_ne_true]
  refine wpAny_bind (?_ : wpAny _ _ (if (!t.led && !es.isEmpty) = true then _ else _) _ _ _)
  rw [hl]
  exact wpAny_pure (wpAny_pure h)
theorem fit_place {t : SetTable} {n : Nat} (f : t.fits n = true) : t.place.size = n := by
  simp only [SetTable.fits, Bool.and_eq_true, beq_iff_eq] at f
  exact f.1
/-- the iterator's record is written -/
theorem it_put {h : Heap} {vs : Array Value} {j : Nat} {v : Value} (e : h.get? it = some { cls := .type "set_iterator", data := .fields vs }) : (h.update it (Obj.mapFields (·.setIfInBounds j v))).get? it = some { cls := .type "set_iterator", data := .fields (vs.setIfInBounds j v) } :=
  Heap.get?_update_self _ e rfl
theorem itG_item {Q : Option Value → Shared → Prop} (g : ItG P w s.heap it a ord i) (hi : i < ord.length) (k : ∀ h' t, ItG P w h' it a ord (i + 1) → Heap.SameBut it s.heap h' → Q (some (.int ord[i] t)) { s with heap := h' }) : wpAny (model P w) A (pyNext (.ref it)) Q E s := by
  obtain ⟨o, es, ep, t, ks, first, q, c, d, f, r, l, n, ne, e, m⟩ := g
  have tis : s.TypeIs (.ref it) "set_iterator" := ⟨_, e, rfl⟩
  have kl := pairedP_length r
  rw [Array.length_toList] at kl
  unfold pyNext
  refine wpAny_bind (wpAny_attempt (wpAny_callSpecial?_slot (name := Str.ofString "__next__") tis SF.slot_next (wpAny_call_entry SF.slot_next tis SF.entry_next (?_ : wpAny _ _ (fieldsOf (.ref it) >>= _) _ _ s) (SF.args_next _))))
  unfold fieldsOf
  refine wpAny_bind (wpAny_bind (wpAny_load e (wpAny_pure ?_)))
  show wpAny _ _ (setEntries a >>= _) _ _ s
  refine wpAny_bind (wpAny_setEntries_of q d f ?_)
  simp only [bne_self_eq_false, Bool.false_eq_true, if_false, Int.toNat_natCast]
  have adv2 : ∀ (nx : Nat) (u : Tok), ModeG P w ((s.heap.update it (Obj.mapFields (·.setIfInBounds 0 (rawInt (nx : Nat))))).update it (Obj.mapFields (·.setIfInBounds 1 (rawInt ((i : Int) + 1))))) a es ep t ks ord (rawInt (nx : Nat)) (i + 1) →
      wpAny (model P w) A.in1 (do setField (.ref it) 0 (rawInt (nx : Nat)); setField (.ref it) 1 (rawInt ((i : Int) + 1)); ret (.int ord[i] u)) (fun fin s' => ∃ v, fin = Fin.done (Flow.ret v) ∧ wpAny (model P w) A (pure (some v)) Q E s') (fun e s' => wpAny (model P w) A (do
          let __do_lift ← isInstance e (Value.type "StopIteration")
          if __do_lift = true then pure none else throw e) Q E s') s := fun nx u md => by
    have e1 := it_put (j := 0) (v := rawInt (nx : Nat)) e
    have e2 := it_put (j := 1) (v := rawInt ((i : Int) + 1)) e1
    refine wpAny_bind (wpAny_setField e rfl (by simp) (wpAny_bind (wpAny_setField e1 rfl (by simp) (wpAny_pure ⟨_, rfl, wpAny_pure (k _ u ?_ ((Heap.SameBut.update _ it _).trans (Heap.SameBut.update _ it _)))⟩))))
    have sb := (Heap.SameBut.update s.heap it (Obj.mapFields (·.setIfInBounds 0 (rawInt (nx : Nat))))).trans (Heap.SameBut.update _ it (Obj.mapFields (·.setIfInBounds 1 (rawInt ((i : Int) + 1)))))
    exact ⟨o, es, ep, t, ks, _, (sb.2 a ne).trans q, c, d, f, r, l, n, ne, e2, md⟩
  rcases m with ⟨m1, ⟨f0, u0, rfl⟩, m3⟩ | ⟨m1, m2, m3, rfl, rfl⟩ | ⟨m1, tp, pl, rfl, m3, m4, m5⟩
  · obtain ⟨hh, u, eu⟩ := paired_at m3 hi
    refine wpAny_bind (next_text q d f m1 ?_)
    have eg : (pickOrder (w.params.setOrder a ep) es)[i]? = some (hh, .int ord[i] u) := by rw [← Array.getElem?_toList]; exact eu
    rw [eg]
    exact adv2 _ u (.inl ⟨m1, ⟨_, _, rfl⟩, m3⟩)
  · have ps := fit_place f
    have hs : i < t.place.size := by omega
    obtain ⟨hh, u, eu⟩ := paired_at r hi
    have eb : SetTable.below t.place ((slotAt t.place i : Nat) : Int).toNat = i := by
      rw [Int.toNat_natCast]
      unfold slotAt
      by_cases z : i = 0
      · rw [if_pos z, z]; exact below_zero m3
      · rw [if_neg z]
        have := below_next m3 (i := i - 1) (by omega)
        rw [show t.place.getD (i - 1) 0 = t.place[i - 1]'(by omega) by simp [Array.getD, show i - 1 < t.place.size by omega], this]
        omega
    refine wpAny_bind (next_plain q d f m1 (by rw [l, m1]; rfl) m2 ?_)
    have eg : es[SetTable.below t.place ((slotAt t.place i : Nat) : Int).toNat]? = some (hh, .int ord[i] u) := by rw [eb, ← Array.getElem?_toList]; exact eu
    have ep' : t.place[SetTable.below t.place ((slotAt t.place i : Nat) : Int).toNat]? = some (t.place[i]) := by rw [eb]; exact Array.getElem?_eq_getElem hs
    rw [eg, ep']
    refine adv2 _ u (.inr (.inl ⟨m1, m2, m3, rfl, ?_⟩))
    unfold slotAt
    rw [if_neg (Nat.succ_ne_zero _), Nat.add_sub_cancel, show t.place.getD i 0 = t.place[i] by simp [Array.getD, hs]]
  · have pll : pl.length = es.size := by have := m4.length_eq; simpa using this
    have hp : i < pl.length := by omega
    have hj : pl[i] < ks.length := by
      have := m4.mem_iff.mp (List.getElem_mem hp)
      rw [List.mem_range] at this
      omega
    obtain ⟨ot, t1, t2, n3, t3⟩ := id m3
    refine wpAny_bind (wpAny_seqItems t1 t3 ?_)
    have eg : ((pl.map fun j => rawInt (j : Nat)).toArray)[i]? = some (rawInt (pl[i] : Nat)) := by simp [hp]
    dsimp only
    rw [eg]
    obtain ⟨hh, u, eu⟩ := paired_at r hj
    show wpAny _ _ (setNextDrawn a ((pl[i] : Nat) : Int).toNat ep >>= _) _ _ s
    unfold setNextDrawn
    refine wpAny_bind (wpAny_bind (wpAny_setState_of q d f ?_))
    dsimp only
    rw [if_neg (by simp), Int.toNat_natCast, ← Array.getElem?_toList, eu]
    have eo : ord[i] = ks[pl[i]] := by
      subst m5
      simp [hj]
    refine wpAny_pure (wpAny_bind (wpAny_setField e rfl (by simp) (wpAny_pure ⟨_, rfl, wpAny_pure ?_⟩)))
    have e2 := it_put (j := 1) (v := rawInt ((i : Int) + 1)) e
    have sb := Heap.SameBut.update s.heap it (Obj.mapFields (·.setIfInBounds 1 (rawInt ((i : Int) + 1))))
    have ntp : tp ≠ it := fun z => by
      rw [z, e] at t1; cases t1; simp at t2
    rw [← eo]
    exact k _ u ⟨o, es, ep, t, ks, _, (sb.2 a ne).trans q, c, d, f, r, l, n, ne, e2, .inr (.inr ⟨m1, tp, pl, rfl, ⟨ot, (sb.2 tp ntp).trans t1, t2, n3, t3⟩, m4, m5⟩)⟩ sb
end
end L2

namespace L2
open PySem PySem.Spec PySem.W PyProof.Rows
section
variable {P : Program} {w : World} {A : Around} {E : Value → Shared → Prop} {s : Shared} {it a : Addr} {ord : List Int} {i : Nat}
/-- StopIteration is raised, and taken by pyNext -/
theorem stop_wp {Q : Option Value → Shared → Prop} {R : PySem.Fin → Shared → Prop} (hh : A.handled = none) (k : ∀ h', (∀ b o, s.heap.get? b = some o → h'.get? b = some o) → Q none { s with heap := h' }) :
    wpAny (model P w) A.in1 (do let e ← newExc (Value.type "StopIteration") []; raiseNew e) R (fun e s' => wpAny (model P w) A (do
          let __do_lift ← isInstance e (Value.type "StopIteration")
          if __do_lift = true then pure none else throw e) Q E s') s := by
  refine wpAny_bind ?_
  simp only [newExc, newTuple]
  refine wpAny_bind (wpAny_newObj_type (wpAny_bind (m := firstArgMember _ _) (wpAny_of_eq (a := Value.none) (by first | rfl | (simp only [firstArgMember]; rfl)) (wpAny_newObj_type ?_ (by size_fits)))) (by size_fits))
  simp only [raiseNew]
  refine wpAny_bind (wpAny_handled ?_)
  rw [show A.in1.handled = none from hh]
  refine wpAny_bind (wpAny_pure (wpAny_throw ?_))
  refine (wpAny_bind (wpAny_isInstance (T := "StopIteration") (b := true) ⟨_, Heap.get?_push_size _ rfl, rfl⟩ isSubtype_stop ?_))
  exact wpAny_pure (k _ fun b o e => Heap.get?_push_of_some _ (Heap.get?_push_of_some _ e))
theorem itG_done {Q : Option Value → Shared → Prop} (hh : A.handled = none) (g : ItG P w s.heap it a ord ord.length) (k : ∀ h', (∀ b o, b ≠ it → s.heap.get? b = some o → h'.get? b = some o) → Q none { s with heap := h' }) : wpAny (model P w) A (pyNext (.ref it)) Q E s := by
  obtain ⟨o, es, ep, t, ks, first, q, c, d, f, r, l, n, ne, e, m⟩ := g
  have tis : s.TypeIs (.ref it) "set_iterator" := ⟨_, e, rfl⟩
  have kl := pairedP_length r
  rw [Array.length_toList] at kl
  unfold pyNext
  refine wpAny_bind (wpAny_attempt (wpAny_callSpecial?_slot (name := Str.ofString "__next__") tis SF.slot_next (wpAny_call_entry SF.slot_next tis SF.entry_next (?_ : wpAny _ _ (fieldsOf (.ref it) >>= _) _ _ s) (SF.args_next _))))
  unfold fieldsOf
  refine wpAny_bind (wpAny_bind (wpAny_load e (wpAny_pure ?_)))
  show wpAny _ _ (setEntries a >>= _) _ _ s
  refine wpAny_bind (wpAny_setEntries_of q d f ?_)
  simp only [bne_self_eq_false, Bool.false_eq_true, if_false, Int.toNat_natCast]
  have fin1 : wpAny (model P w) A.in1 (do setField (.ref it) 2 Value.none; let e ← newExc (Value.type "StopIteration") []; raiseNew e) (fun fin s' => ∃ v, fin = Fin.done (Flow.ret v) ∧ wpAny (model P w) A (pure (some v)) Q E s') (fun e s' => wpAny (model P w) A (do
          let __do_lift ← isInstance e (Value.type "StopIteration")
          if __do_lift = true then pure none else throw e) Q E s') s := by
    have sb := Heap.SameBut.update s.heap it (Obj.mapFields (·.setIfInBounds 2 Value.none))
    exact wpAny_bind (wpAny_setField e rfl (by simp) (stop_wp hh fun h' kk => k h' fun b o z y => kk b o ((sb.2 b z).trans y)))
  rcases m with ⟨m1, ⟨f0, u0, rfl⟩, m3⟩ | ⟨m1, m2, m3, rfl, rfl⟩ | ⟨m1, tp, pl, rfl, m3, m4, m5⟩
  · refine wpAny_bind (next_text q d f m1 ?_)
    have pl := pairedP_length m3
    rw [Array.length_toList] at pl
    rw [Array.getElem?_eq_none (by omega)]
    exact fin1
  · have ps := fit_place f
    refine wpAny_bind (next_plain q d f m1 (by rw [l, m1]; rfl) m2 ?_)
    have eb : SetTable.below t.place (slotAt t.place ord.length) = ord.length := by
      unfold slotAt
      by_cases z : ord.length = 0
      · rw [if_pos z, z]; exact below_zero m3
      · rw [if_neg z]
        have := below_next m3 (i := ord.length - 1) (by omega)
        rw [show t.place.getD (ord.length - 1) 0 = t.place[ord.length - 1]'(by omega) by simp [Array.getD, show ord.length - 1 < t.place.size by omega], this]
        omega
    have eg : es[SetTable.below t.place (slotAt t.place ord.length)]? = none := by rw [eb]; exact Array.getElem?_eq_none (by omega)
    simp only [Int.toNat_natCast]
    rw [eg]
    exact fin1
  · obtain ⟨ot, t1, t2, n3, t3⟩ := id m3
    have pll : pl.length = ord.length := by rw [m5, List.length_map]
    refine wpAny_bind (wpAny_seqItems t1 t3 ?_)
    have eg : ((pl.map fun j => rawInt (j : Nat)).toArray)[ord.length]? = none := Array.getElem?_eq_none (by simp [pll])
    dsimp only
    rw [eg]
    have e1 := it_put (j := 0) (v := rawInt 0) e
    have sb := (Heap.SameBut.update s.heap it (Obj.mapFields (·.setIfInBounds 0 (rawInt 0)))).trans (Heap.SameBut.update _ it (Obj.mapFields (·.setIfInBounds 2 Value.none)))
    exact wpAny_bind (wpAny_setField e rfl (by simp) (wpAny_bind (wpAny_setField e1 rfl (by simp) (stop_wp hh fun h' kk => k h' fun b o z y => kk b o ((sb.2 b z).trans y)))))
/-- list.extend over the walk -/
theorem ext_loop {S : Addr} {res : Value} {R : Result → Shared → Prop} (hh : A.handled = none) (hSi : S ≠ it) (hz : ord.length ≤ sizeLine) : ∀ (k i : Nat) (s : Shared) (acc : List Value) (c : Nat), ord.length - i = k → i ≤ ord.length → ItG P w s.heap it a ord i → s.heap.get? S = some { cls := .type "list", data := .seq acc.toArray c } → IntsAre acc (ord.take i) →
    (∀ h' acc' c', (∀ b o, b ≠ it → b ≠ S → s.heap.get? b = some o → h'.get? b = some o) → h'.get? S = some { cls := .type "list", data := .seq acc'.toArray c' } → IntsAre acc' ord → R (.ok (.ret res)) { s with heap := h' }) →
    codeAny (model P w) A (.builtin "list.extend.loop" ⟨[.ref S, .ref it, res], []⟩) R s := by
  intro k
  induction k with
  | zero =>
    intro i s acc c hk hi g eS ha hR
    have ei : i = ord.length := by omega
    subst ei
    refine (codeAny_builtin F.entry_extend_loop (?_ : wpAny _ _ _ _ _ s))
    rw [(Around.under_plainId F.plain_extend_loop _)]
    refine (wpAny_bind (itG_done (A := A.in1) hh g fun h' kk => ?_) : wpAny _ A.in1 (pyNext (.ref it) >>= _) _ _ s)
    rw [List.take_length] at ha
    exact wpAny_pure (hR h' acc c (fun b o z _ y => kk b o z y) (kk S _ hSi eS) ha)
  | succ k ih =>
    intro i s acc c hk hi g eS ha hR
    have hlt : i < ord.length := by omega
    refine (codeAny_builtin F.entry_extend_loop (?_ : wpAny _ _ _ _ _ s))
    rw [(Around.under_plainId F.plain_extend_loop _)]
    refine (wpAny_bind (itG_item (A := A.in1) g hlt fun h' t g' sb => ?_) : wpAny _ A.in1 (pyNext (.ref it) >>= _) _ _ s)
    have eS1 : h'.get? S = some { cls := .type "list", data := .seq acc.toArray c } := (sb.2 S hSi).trans eS
    have al : acc.length = i := by rw [ha.length, List.length_take]; omega
    have sb2 := Heap.SameBut.update h' S (Obj.mapSeq (·.push (Value.int ord[i] t)))
    show wpAny _ A.in1 (updateSeq S (·.push (Value.int ord[i] t)) >>= _) _ _ _
    refine wpAny_bind ?_
    refine wpAny_updateSeq eS1 rfl (wpAny_pure ⟨plainId_quiet F.plain_extend_loop _, ?_⟩) (by rw [List.size_toArray]; omega) (by show (acc.toArray.push (Value.int ord[i] t)).size ≤ sizeLine + 1; rw [Array.size_push, List.size_toArray]; omega)
    have eS2 : (h'.update S (Obj.mapSeq (·.push (Value.int ord[i] t)))).get? S = some { cls := .type "list", data := .seq (acc ++ [Value.int ord[i] t]).toArray (c + 1) } := by
      have := Heap.get?_update_self (Obj.mapSeq (·.push (Value.int ord[i] t))) eS1 rfl
      rw [this]
      simp [Obj.mapSeq]
    refine ih (i + 1) _ (acc ++ [Value.int ord[i] t]) (c + 1) (by omega) (by omega) (g'.keep fun b o z y => (sb2.2 b fun w => ?_).trans y) eS2 ?_ fun h3 acc' c' kk e3 a3 => ?_
    · rw [w, eS1] at y; cases y; exact z rfl
    · rw [List.take_add_one, List.getElem?_eq_getElem hlt]
      exact ksk_snoc ha
    · refine hR h3 acc' c' (fun b o z1 z2 y => kk b o z1 z2 ((sb2.2 b z2).trans ((sb.2 b z1).trans y))) e3 a3
end
end L2

namespace L2
open PySem PySem.Spec PySem.W PyProof.Rows
theorem asc_short {xs : Array Nat} (h : xs.size ≤ 1) : Asc xs := by
  obtain ⟨l⟩ := xs
  unfold Asc
  match l, h with
  | [], _ => exact .nil
  | [x], _ => exact List.pairwise_singleton _ _
  | _ :: _ :: _, h => simp at h
theorem range_getD (ks : List Int) : (List.range ks.length).map (fun j => ks.getD j 0) = ks := by
  apply List.ext_getElem
  · simp
  · intro i h1 h2
    simp [h2]
section
variable {P : Program} {w : World} {A : Around} {E : Value → Shared → Prop} {s : Shared} {a : Addr} {ns : List Int}
theorem set_iter {Q : Value → Shared → Prop} (S : SetG P w s.heap a ns) (hz : ns.length ≤ sizeLine) (k : ∀ it ord h' d, List.Perm ord ns → s.heap.objs.size ≤ it → ItG P w h' it a ord 0 → (∀ b o, s.heap.get? b = some o → h'.get? b = some o) → Q (.ref it) { s with heap := h', drawn := d }) :
    wpAny (model P w) A (pyIter (.ref a)) Q E s := by
  obtain ⟨o, es, ep, t, ks, q, x, d, r, p, nd, f, tb⟩ := S
  have tis : s.TypeIs (.ref a) "set" := ⟨o, q, x.1⟩
  have kl := pairedP_length r
  rw [Array.length_toList] at kl
  have la := Heap.lt_size q
  refine wpAny_pyIter_slot tis F.slot_set_iter (wpAny_call_entry F.slot_set_iter tis SF.entry_iter (?_ : wpAny _ _ (do
    let n ← Builtin.Frozenset.sizeOf a
    let first ← if ← setDrawn a then newTuple ((← drawOrder n (List.range n)).map fun (i : Nat) => rawInt i) else pure (rawInt 0)
    ret (← newFields "set_iterator" [first, rawInt 0, .ref a, rawInt n, rawInt (← setEpoch a)])) _ _ s) (F.args_set_iter_1 _))
  unfold Builtin.Frozenset.sizeOf setDrawn
  refine wpAny_bind (wpAny_bind (wpAny_setEntries_of q d f (wpAny_pure (wpAny_bind (wpAny_bind (wpAny_setState_of q d f (wpAny_bind (byText_wp (wpAny_pure ?_)))))))))
  show wpAny _ _ (if (!byT w && (!t.plain && decide (es.size > 1))) = true then _ else _) _ _ _
  have mk : ∀ (first : Value) (ord : List Int) (h1 : Heap) (d1 : Drawn), List.Perm ord ks → (∀ b o, s.heap.get? b = some o → h1.get? b = some o) → s.heap.objs.size ≤ h1.objs.size → (∀ h2 : Heap, (∀ b o, h1.get? b = some o → h2.get? b = some o) → ModeG P w h2 a es ep t ks ord first 0) →
      wpAny (model P w) A.in1 (do ret (← newFields "set_iterator" [first, rawInt 0, .ref a, rawInt es.size, rawInt (← setEpoch a)])) (fun fin s' => ∃ v, fin = Fin.done (Flow.ret v) ∧ ∃ T f, s'.TypeIs v T ∧ typeLookup (.type T) "__next__" = pure (some f) ∧ Q v s') E { s with heap := h1, drawn := d1 } := fun first ord h1 d1 po k1 hs md => by
    refine wpAny_bind (wpAny_setEpoch_of (k1 _ _ q) d f (wpAny_bind (wpAny_newObj_type (wpAny_pure ⟨_, rfl, "set_iterator", _, ⟨_, Heap.get?_push_size _ rfl, rfl⟩, SF.slot_next.lookup, ?_⟩))))
    have kp : ∀ b o, h1.get? b = some o → (h1.push { cls := .type "set_iterator", data := .fields [first, rawInt 0, .ref a, rawInt es.size, rawInt ep].toArray }).get? b = some o := fun b o e => Heap.get?_push_of_some _ e
    refine k _ ord _ d1 (po.trans p) hs ⟨o, es, ep, t, ks, first, kp _ _ (k1 _ _ q), x.1, d, f, r, tb.led, by rw [po.length_eq, kl], Nat.ne_of_lt (Nat.lt_of_lt_of_le la hs), Heap.get?_push_size _ rfl, md _ kp⟩ fun b o e => kp b o (k1 b o e)
  by_cases hb : byT w = true
  · obtain ⟨ord, p1, r1⟩ := paired_perm (pick_perm (w.params.setOrder a ep) es) r
    rw [if_neg (by rw [hb]; simp)]
    exact wpAny_bind (wpAny_pure (mk (rawInt 0) ord s.heap s.drawn p1 (fun _ _ e => e) (Nat.le_refl _) fun h2 _ => .inl ⟨hb, ⟨_, _, rfl⟩, r1⟩))
  · have hb' : byT w = false := by simpa using hb
    by_cases hd : (!t.plain && decide (es.size > 1)) = true
    · rw [if_pos (by rw [hb', hd]; rfl)]
      refine wpAny_bind (draw_perm es.size (List.range es.size) s (by simp) fun ys d1 hp => wpAny_bind (wpAny_newTuple ?_ ?_))
      · have ht : ∀ h2 : Heap, (∀ b o, (s.heap.push { cls := .type "tuple", data := .seq (ys.map fun (i : Nat) => rawInt i).toArray }).get? b = some o → h2.get? b = some o) → IsTup h2 s.heap.objs.size (ys.map fun (i : Nat) => rawInt (i : Nat)).toArray := fun h2 k2 => ⟨_, k2 _ _ (Heap.get?_push_size _ rfl), rfl, _, rfl⟩
        refine mk (.ref s.heap.objs.size) (ys.map fun j => ks.getD j 0) (s.heap.push { cls := .type "tuple", data := .seq (ys.map fun (i : Nat) => rawInt i).toArray }) d1 ?_ (fun b o e => Heap.get?_push_of_some _ e) (by rw [Heap.size_push]; exact Nat.le_succ _) fun h2 k2 => .inr (.inr ⟨hb', _, ys, rfl, ht h2 k2, hp, rfl⟩)
        have := hp.map fun j => ks.getD j 0
        rw [kl, range_getD] at this
        exact this
      · rw [List.length_map, hp.length_eq, List.length_range, kl, p.length_eq]
        exact hz
    · have hd' : (!t.plain && decide (es.size > 1)) = false := by simpa using hd
      rw [if_neg (by rw [hd']; simp)]
      refine wpAny_bind (wpAny_pure (mk (rawInt 0) ks s.heap s.drawn (List.Perm.refl _) (fun _ _ e => e) (Nat.le_refl _) fun h2 _ => .inr (.inl ⟨hb', hd', ?_, rfl, rfl⟩)))
      cases hp : t.plain with
      | true => exact tb.asc hp
      | false =>
        rw [hp] at hd'
        refine asc_short ?_
        rw [fit_place f]
        simpa using hd'
theorem collect_set {Q : List Value → Shared → Prop} (hh : A.handled = none) (S : SetG P w s.heap a ns) (hz : ns.length ≤ sizeLine) (k : ∀ vs ord h' d, IntsAre vs ord → List.Perm ord ns → (∀ b o, s.heap.get? b = some o → h'.get? b = some o) → Q vs { s with heap := h', drawn := d }) :
    wpAny (model P w) A (collect (.ref a)) Q E s := by
  have la : a < s.heap.objs.size := by
    obtain ⟨o, es, ep, t, ks, q, _⟩ := S
    exact Heap.lt_size q
  unfold collect
  refine wpAny_bind (wpAny_runValue (codeAny_builtin F.entry_proto_collect (?_ : wpAny _ _ _ _ _ s)))
  rw [(Around.under_plainId F.plain_proto_collect _)]
  show wpAny _ A.in1 (newList [] >>= fun l => again (.builtin "list.__iadd__" ⟨[l, .ref a], []⟩)) _ _ s
  refine (wpAny_bind (wpAny_newObj_type ?_))
  refine (wpAny_pure ⟨plainId_quiet F.plain_list_iadd _, (codeAny_builtin F.entry_list_iadd ?_)⟩)
  rw [(Around.under_plainId F.plain_list_iadd _)]
  show wpAny _ A.in1 (Builtin.List.listExtendWith (.ref s.heap.objs.size) (.ref a) (.ref s.heap.objs.size)) _ _ _
  unfold Builtin.List.listExtendWith
  generalize hH : s.heap.push { cls := .type "list", data := .seq ([] : List Value).toArray } = H1
  have kp : ∀ b o, s.heap.get? b = some o → H1.get? b = some o := fun b o e => by rw [← hH]; exact Heap.get?_push_of_some _ e
  have eS : H1.get? s.heap.objs.size = some { cls := .type "list", data := .seq ([] : List Value).toArray } := by rw [← hH]; exact Heap.get?_push_size _ rfl
  have z1 : H1.objs.size = s.heap.objs.size + 1 := by rw [← hH]; exact Heap.size_push _ _
  have S1 : SetG P w H1 a ns := S.keep fun o e => kp _ _ e
  have tis : Shared.TypeIs { s with heap := H1 } (.ref a) "set" := by
    obtain ⟨o, es, ep, t, ks, q, x, _⟩ := S1
    exact ⟨o, q, x.1⟩
  refine wpAny_bind (wpAny_typeOf tis ?_)
  have g1 : Builtin.List.listSameRef (.ref s.heap.objs.size) (.ref a) = false := by simp [Builtin.List.listSameRef, Nat.ne_of_gt la]
  have g2 : (Value.type "set" == Value.type "list") = false := by decide
  have g3 : (Value.type "set" == Value.type "tuple") = false := by decide
  simp only [g1, g2, g3, Bool.or_false, Bool.false_eq_true, if_false]
  refine wpAny_bind (set_iter (s := { s with heap := H1 }) S1 hz fun it ord h2 d2 po hge g k2 => wpAny_bind (wpAny_holding ?_))
  have tis2 : Shared.TypeIs { s with heap := h2, drawn := d2 } (.ref a) "set" := by
    obtain ⟨o, e, c⟩ := tis
    exact ⟨o, k2 _ _ e, c⟩
  unfold Builtin.List.listLengthHint
  refine wpAny_bind (wpAny_specialOf tis2 SF.len_set ?_)
  wp_delta
  refine (wpAny_bind (wpAny_isInstance tis2 (b := true) (by rw [isSubtype_type]; kernel_rfl) (?_ : wpAny _ A.in1 (typeOf (Value.ref a) >>= _) _ _ _)))
  refine wpAny_bind (wpAny_typeOf tis2 (wpAny_pure ?_))
  rw [if_pos (by decide)]
  have nS : s.heap.objs.size ≠ it := fun z => absurd hge (by rw [← z, z1]; exact Nat.not_succ_le_self _)
  have eS2 := k2 _ _ eS
  have eS3 := Heap.get?_update_self (Obj.mapSeq (·.push Value.none)) eS2 rfl
  have eS4 := Heap.get?_update_self (Obj.mapSeq (·.pop)) eS3 rfl
  have sb := (Heap.SameBut.update h2 s.heap.objs.size (Obj.mapSeq (·.push Value.none))).trans (Heap.SameBut.update _ s.heap.objs.size (Obj.mapSeq (·.pop)))
  refine wpAny_bind (wpAny_rule (wpAny_bind (?_ : wpAny _ A.in1 (updateSeq s.heap.objs.size (·.push .none) >>= fun _ => updateSeq s.heap.objs.size (·.pop)) _ _ _)))
  refine wpAny_bind (wpAny_updateSeq eS2 rfl (wpAny_updateSeq eS3 rfl ?_))
  refine wpAny_pure ⟨plainId_quiet F.plain_extend_loop _, ?_⟩
  refine ext_loop (P := P) (w := w) (it := it) (a := a) (ord := ord) hh nS (by rw [po.length_eq]; exact hz) (ord.length - 0) 0 _ [] 2 rfl (Nat.zero_le _) (g.keep fun b o z y => (sb.2 b fun w => ?_).trans y) eS4 .nil fun h3 acc c k3 e3 a3 => ?_
  · rw [w, eS2] at y; cases y; exact z rfl
  show wpAny _ A (load s.heap.objs.size >>= _) _ _ _
  refine (wpAny_bind (wpAny_load e3 (wpAny_pure ?_)))
  have nb : ∀ b o, s.heap.get? b = some o → b ≠ it ∧ b ≠ s.heap.objs.size := fun b o e => by
    have := Heap.lt_size e
    have hge' : H1.objs.size ≤ it := hge
    rw [z1] at hge'
    exact ⟨Nat.ne_of_lt (Nat.lt_of_lt_of_le this (Nat.le_trans (Nat.le_succ _) hge')), Nat.ne_of_lt this⟩
  exact k _ ord h3 d2 a3 po fun b o e => k3 b o (nb b o e).1 (nb b o e).2 ((sb.2 b (nb b o e).2).trans (k2 b o (kp b o e)))
end
/-! ### set(xs), sorted(set(xs)) over the layer -/
/-- a set of ints, no two equal -/
def setO (P : Program) (w : World) (a : Addr) (ns : List Int) : HO := .ext fun h => SetG P w h a ns
theorem setO_ok {P : Program} {w : World} {H : Hp} {h : Heap} {a : Addr} {ns : List Int} (S : SetG P w h a ns) : ObjOk P w H h a (setO P w a ns) := by
  obtain ⟨o, es, ep, t, ks, q, _⟩ := id S
  exact ⟨S, ⟨o, q⟩, fun h1 h2 g k => g.keep k⟩
theorem intsAre_vals {ns : List Int} : ∀ {us : List Value}, Vals (ns.map V.int) us → IntsAre us ns := fun r => intsAre_of r
theorem once_eq (ns : List Int) : onceN (fun i => ns.getD i 0) ns.length = onceL ns := by
  unfold onceN
  rw [range_getD]
theorem once_len (ns : List Int) : (onceL ns).length ≤ ns.length := by
  rw [← once_eq]
  exact onceN_len _ _
section
variable {X : Cx}
def rSetI (P : Program) (w : World) (K : PySem.W.Frag) : List V → Hp → VK → Prop := fun xs H Q => ∃ (p : Addr) (ns : List Int), xs = [.ref p] ∧ SqL K H p (ns.map V.int) ∧ ns.length < 4000 ∧ ∀ a, H a = none → Q (.ref a) (upd H a (setO P w a (onceL ns)))
theorem call_setI (hc : X.calm = true) : CallR X (.type "set") (rSetI X.prog X.w X.K) := by
  intro pins s σ H xs us Q I r h
  obtain ⟨p, ns, rfl, hl, hz, q⟩ := h
  obtain ⟨u, rfl, rx⟩ := vals1 r
  cases rx
  obtain ⟨its, rv, pl, hz2⟩ := I.list hl
  have il := rv.length
  rw [List.length_map] at il
  have hs : its.toArray.size = its.length := List.size_toArray
  refine set_call (items := its.toArray) (ns := ns) (I.ok.hd hc) pl.isList (by rw [List.toList_toArray]; exact intsAre_of rv) (by rw [hs]; unfold scanBound; omega) fun h' tk S k => ?_
  rw [hs, ← il, once_eq] at S
  have hn : H s.heap.objs.size = none := I.hok.fresh (Nat.le_refl _)
  have f := I.fpOk (b := s.heap.objs.size) (Nat.le_refl _) hn
  have J : Inv X pins σ H { s with heap := h', toks := tk } := I.kept k
  exact ⟨.ref s.heap.objs.size, _, Inv.adopt (o := setO X.prog X.w s.heap.objs.size (onceL ns)) J hn I.sz f.2.1 f.2.2.2.2.1 f.2.2.2.2.2 (setO_ok S), rfl, q _ hn⟩
/-- sorted(s), s a set of ints -/
def rSortS (P : Program) (w : World) : List V → Hp → VK → Prop := fun xs H Q => ∃ (a : Addr) (ns : List Int), xs = [.ref a] ∧ H a = some (setO P w a ns) ∧ ns.length < 64 ∧ ∀ l zs, H l = none → List.Perm zs ns → zs.Pairwise (· < ·) → Q (.ref l) (upd H l (.lst (zs.map V.int)))
theorem call_sortedS (hc : X.calm = true) : CallR X (.builtin "sorted") (rSortS X.prog X.w) := by
  intro pins s σ H xs us Q I r h
  obtain ⟨a, ns, rfl, ha, h64, q⟩ := h
  obtain ⟨u, rfl, rx⟩ := vals1 r
  cases rx
  have S : SetG X.prog X.w s.heap a ns := (I.hok a _ ha).1
  have nd : ns.Nodup := by
    obtain ⟨o, es, ep, t, ks, _, _, _, _, _, nd, _⟩ := S
    exact nd
  refine sorted_wp (H := H) (collect_set (I.ok.hd hc) S (by rw [sizeLine_eq]; omega) fun vs ord h' d ia po k => ?_)
  have ol := po.length_eq
  have vl := ia.length
  have nd' : ord.Nodup := po.nodup_iff.mpr nd
  obtain ⟨m, F⟩ := I.fr
  have J : Inv X pins σ H { s with heap := h', drawn := d } := Inv.regrown (t' := s.toks) I F.ns (let ⟨o, es, ep, e, rr⟩ := F.ns; ⟨o, es, ep, k _ _ e, rr⟩) fun b o _ e => k b o e
  have inj : ∀ i j, i < vs.length → j < vs.length → ord.getD i 0 = ord.getD j 0 → i = j := fun i j hi hj e => by
    have hi' : i < ord.length := by omega
    have hj' : j < ord.length := by omega
    have e' : ord[i] = ord[j] := by simpa [hi', hj'] using e
    rcases Nat.lt_trichotomy i j with z | z | z
    · exact absurd e' (List.pairwise_iff_getElem.mp nd' i j _ _ z)
    · exact z
    · exact absurd e'.symm (List.pairwise_iff_getElem.mp nd' j i _ _ z)
  refine ⟨ord.map V.int, fun i => ord.getD i 0, J, vals_ints ia, ⟨by omega, inj, fun h2 => ?_⟩, fun l zs hn so => ?_⟩
  · refine ⟨oneType', fun A s' kk => ⟨fun Q' hQ => ?_, fun i j C hi hj ne c => ?_⟩⟩
    · match vs, ia, h2 with
      | v1 :: v2 :: rest, ia, _ => rw [keyKind_ints ia]; exact wpAny_pure hQ
    · unfold kas_ask
      obtain ⟨t1, e1⟩ := IntsAre.int_at ia i _ (List.getElem?_eq_getElem hi)
      obtain ⟨t2, e2⟩ := IntsAre.int_at ia j _ (List.getElem?_eq_getElem hj)
      have g1 : vs.getD i Value.none = .int (ord.getD i 0) t1 := by rw [← e1]; simp [hi]
      have g2 : vs.getD j Value.none = .int (ord.getD j 0) t2 := by rw [← e2]; simp [hj]
      rw [g1, g2]
      exact kat_lt_int c
  · have so' : SortOf ((ord.map fun n => (n, V.int n)).map (·.2)) (fun i => ((ord.map fun n => (n, V.int n)).map (·.1)).getD i 0) zs := by
      rw [List.map_map, List.map_map]
      have e1 : (ord.map ((fun x : Int × V => x.2) ∘ fun n => (n, V.int n))) = ord.map V.int := rfl
      have e2 : (ord.map ((fun x : Int × V => x.1) ∘ fun n => (n, V.int n))) = ord := by
        show ord.map (fun n => n) = ord
        simp
      rw [e1, e2]
      exact so
    obtain ⟨qs, g, pw, rfl⟩ := sortOf_pairs so'
    have hq : ∀ x ∈ qs, x.2 = V.int x.1 := fun x hx => by
      obtain ⟨n, _, e⟩ := List.mem_map.mp (g.mem_iff.mp hx)
      rw [← e]
    have em : qs.map (·.2) = (qs.map (·.1)).map V.int := by
      rw [List.map_map]
      exact List.map_congr_left fun x hx => hq x hx
    rw [em]
    refine q l (qs.map (·.1)) hn ?_ ?_
    · have := g.map (·.1)
      rw [List.map_map] at this
      have e2 : (ord.map ((fun x : Int × V => x.1) ∘ fun n => (n, V.int n))) = ord := by
        show ord.map (fun n => n) = ord
        simp
      rw [e2] at this
      exact this.trans po
    · exact List.pairwise_map.mpr pw
end
end L2

namespace L2
open PySem PySem.Spec PySem.W PyProof.Rows L3

/-! ### isinstance of an exception, where it is one -/
theorem yes_ans {K : Frag} {x t c : Value} {H : Heap → Prop} (ty : ∀ (M : Model) (h : Heap), K.In h → H h → Looks M h (typeOf x) t) (e : kitOne K t c = some true) : Answers (fun s => K.In s.heap ∧ H s.heap) x c true := by
  intro dep tk prog w A R s hs
  obtain ⟨h0, g, d, tt, os⟩ := s
  obtain ⟨⟨kx, p⟩, hq⟩ := hs
  have L0 := ty (model prog w) h0 kx p
  unfold kitOne at e
  unfold Builtin.«isinstance.nested»
  refine (wpAny_bind (L0.at ?_))
  by_cases q : (t == c) = true
  · rw [if_pos q]
    first
      | exact wpAny_bind (wpAny_rule (hq tt))
      | exact wpAny_bind (wpAny_rule (wpAny_pure (hq tt)))
  · rw [if_neg q] at e
    rw [if_neg q]
    obtain ⟨c1, c2, c3⟩ := kit_cls (M := model prog w) kx e
    refine wpAny_bind (c1.at ?_)
    rw [if_pos (by decide)]
    k_delta "plainIsInstance"
    refine (wpAny_bind (wpAny_bind (c2.at ?_)))
    simp only [Bool.not_true, Bool.false_eq_true, if_false]
    refine wpAny_bind ((L0.andThen c3 : Looks (model prog w) h0 (isInstance x c) true).at ?_)
    first
      | exact wpAny_pure (wpAny_pure (hq tt))
      | (simp only [if_true]; first | exact wpAny_pure (wpAny_pure (hq tt)) | exact wpAny_pure (hq tt) | exact wpAny_bind (wpAny_pure (wpAny_pure (hq tt))))
def rIsiX (K : Frag) : List V → Hp → VK → Prop := fun xs H Q => ∃ ea c dd cl cv, xs = [.ref ea, cl] ∧ H ea = some (exo ea c dd) ∧ clsV cl = some cv ∧ kitOne K c cv = some true ∧ Q (.bl true) H
theorem call_isiX {X : Cx} : CallR X (.builtin "isinstance") (rIsiX X.K) := by
  intro pins s σ H xs us Q I r h
  obtain ⟨ea, c, dd, cl, cv, e, he, hc, hk, q⟩ := h
  subst e
  cases r with
  | cons r1 r2 =>
    cases r2 with
    | cons r2 r3 =>
      cases r3
      cases clsV_rel hc r2
      cases r1
      have ho : ∃ o, s.heap.get? ea = some o ∧ o.cls = c := by
        obtain ⟨⟨o, vs, e, c1, _⟩, _⟩ := I.hok ea _ he
        exact ⟨o, e, c1⟩
      have ty : ∀ (M : Model) (h : Heap), X.K.In h → (∃ o, h.get? ea = some o ∧ o.cls = c) → Looks M h (typeOf (.ref ea)) c := fun M h _ p => by
        obtain ⟨o, e, z⟩ := p
        exact z ▸ (Looks.ld e).andThen .now
      exact call_isinstance (S := fun _ R s => (X.K.In s.heap ∧ ∃ o, s.heap.get? ea = some o ∧ o.cls = c) ∧ ∀ tk, R (.ok (.ret (.bool true))) { s with toks := tk })
        (fun prog w A R s hs => isinstance_outer (yes_ans ty hk 0 _ prog w A R s hs) (fun z => nomatch z)) ⟨⟨I.kIn, ho⟩, fun tk => ⟨.bl true, H, I.tok tk, rfl, q⟩⟩
theorem isiX_K {X : Cx} (K : Frag) (h : X.K = K := by rfl) : CallR X (.builtin "isinstance") (rIsiX K) := by subst h; exact call_isiX
end L2

namespace L2
open PySem PySem.Spec PyProof.Rows L3
/-! ### o.m(..) that may raise -/
def tMethX (C : Addr) (m : Str) (sp : Sp) (dvs : List V) (W : WX) (ta : TE) (t : TA) : TE := fun σ H Q => ta σ H fun x H1 => ∃ a dx fs, x = .ref a ∧ H1 a = some (.ins C dx fs) ∧ fs.lookup m = none ∧
  t σ H1 fun vs H2 => sp (x :: (vs ++ dvs)) H2 Q (W σ)
section
variable {X : Cx} {k : Nat} {f C : Addr} {fd : FuncData} {ps : List Str} {sp : Sp} {dvs : List V} {ds : List Value} {W : WX} {x m : Str} {p pos apos : Pos} {e o : Expr} {es : List Expr} {ta : TE} {t : TA} {P : Program} {w : World}
theorem pe_methX {pl : Sem Bool} (he : PE X o ta) (c : Cls X.K C) (hm : Meth X.K C m f) (F : FnOk P w X.K X.mg X.base (CXE P w) k f fd ps sp) (hr : Room k X.A) (hb : Binds X.K fd ps ds) (hd : Vals dvs ds) (hL : Lifts X W) (ha : PA X (e :: es) t) (hP : X.prog = P := by rfl) (hw : X.w = w := by rfl)
    (hst : starEach (e :: es) X.env = (false, eval e X.env) :: starEach es X.env := by rfl) (hpl : (backTo pos (starEach es X.env)).any (·.1) = false := by rfl)
    (ht : eval (.Call (.Attribute o m apos) (e :: es) [] pos) X.env = (do
      let ov ← eval o X.env
      standAt apos.atName
      let (f, first) ← holding [ov] (getMethod ov m pl)
      callWith pos f first (backTo pos (starEach (e :: es) X.env)) (backToKw pos (keywordEach [] X.env))) := by rfl) :
    PE X (.Call (.Attribute o m apos) (e :: es) [] pos) (tMethX C m sp dvs W ta t) := by
  subst hP hw
  intro pins s σ H Q I h
  refine PySem.W.methodCall_KW (pl := pl) (thn (he pins s σ H _ I h) fun u s1 ⟨x, H1, I1, rx, a, dx, fs, ex, ea, l, q⟩ => ?_) ht
  subst ex
  obtain rfl : u = Value.ref a := rx
  refine getmeth_ok I1 ea c hm l ?_
  refine PySem.W.callWith_K (first := [.ref a]) (h₀ := X.base) I.ok.mod.kin hm.kp (thn (ha pos pins s1 σ H1 _ I1 q) fun us s2 ⟨vs, H2, I2, r, q2⟩ => ⟨I2.kIn, ?_⟩) hst hpl
  exact run_fnX (us := .ref a :: us) (vs := .ref a :: vs) F hr hb hd hL I2 (.cons rfl r) q2
end
/-! ### a def whose code object is known (it makes lambdas) -/
structure FunC (K : PySem.W.Frag) (x qual : Str) (st : Stmt) (f : Addr) (fd : FuncData) (c : Addr) : Prop where
  ex : ∃ (oc : Value) (od : Option Addr) (kV doc pm : Value) (an : Option Addr) (ct : Value) (osl : Array (Option Value)),
    fd = PySem.W.fnOf x qual (defArgs st) (defBody st) (defScope st) .none kV doc pm an (.ref c) ct ∧ K.lookup f = some ⟨oc, od, .func fd, osl⟩ ∧ PySem.W.codeIn K (.ref c) qual = true
  kp : PySem.W.keepIn K (.ref f) = true
theorem funC_mk {K : PySem.W.Frag} {x qual : Str} {st : Stmt} {f c : Addr} {oc : Value} {od an : Option Addr} {osl : Array (Option Value)} {kV doc pm ct : Value} (l : K.lookup f = some ⟨oc, od, .func (PySem.W.fnOf x qual (defArgs st) (defBody st) (defScope st) .none kV doc pm an (.ref c) ct), osl⟩)
    (c1 : PySem.W.codeIn K (.ref c) qual = true) (k : PySem.W.keepIn K (.ref f) = true) : FunC K x qual st f (PySem.W.fnOf x qual (defArgs st) (defBody st) (defScope st) .none kV doc pm an (.ref c) ct) c := ⟨⟨oc, od, kV, doc, pm, an, ct, osl, rfl, l, c1⟩, k⟩
section
variable {P : Program} {w : World} {K : PySem.W.Frag} {mg : Str → Option Value} {base : Heap}
theorem FunC.ok {x qual : Str} {st : Stmt} {f c : Addr} {fd : FuncData} {N ps : List Str} {k : Nat} {sp : Sp} (F : FunC K x qual st f fd c) (S : FnScope N ps (defScope st)) (len : ∀ vs H Q E, sp vs H Q E → vs.length = ps.length)
    (hbody : ∀ (A : Around) (outer : List Env) (s : Shared) (H : Hp) (vs : List V) (Q : VK) (E : XK), Room k (A.deeper (envOfC qual (defScope st) s.heap.objs.size f (.ref c))) → sp vs H Q E →
      ∃ t, PSs (cxOf CX0 P w K mg base N qual (defScope st) f (.ref c) A outer s H E).nox (defBody st) t ∧ t { nx := fun _ H' => Q .non H', rt := Q } (start N vs) H) : FnOk P w K mg base CX0 (k + 1) f fd ps sp := by
  obtain ⟨oc, od, kV, doc, pm, an, ct, osl, rfl, lk, hcd⟩ := F.ex
  refine fn_of lk hcd S len fun A outer s H vs Q E hr hsp => ?_
  obtain ⟨t, h, q⟩ := hbody A outer s H vs Q E hr hsp
  exact ⟨t, h.nox, q⟩
theorem FunC.fun {x qual : Str} {st : Stmt} {f c : Addr} {fd : FuncData} (F : FunC K x qual st f fd c) : Fun K x qual st f fd := by
  obtain ⟨oc, od, kV, doc, pm, an, ct, osl, e, lk, hcd⟩ := F.ex
  exact ⟨⟨oc, od, kV, doc, pm, an, _, ct, osl, e, lk, hcd⟩, F.kp⟩
end
end L2

namespace L2
open PySem PySem.Spec PyProof.Rows
/-! ### rules whose reading names the written part alone (for blocks within a def) -/
section
variable {X : Cx}
theorem len_K (K : PySem.W.Frag) (h : X.K = K := by rfl) : CallR X (.builtin "len") (fun xs H Q => ∃ p ys, xs = [.ref p] ∧ (SqL K H p ys ∨ SqT K H p ys) ∧ Q (.int ys.length) H) := by subst h; exact call_len_seq
theorem ixl_K (K : PySem.W.Frag) (h : X.K = K := by rfl) : IxR X (rIxL K) := by subst h; exact ix_list
theorem ixt_K (K : PySem.W.Frag) (h : X.K = K := by rfl) : IxR X (rIxT K) := by subst h; exact ix_tup
theorem slt_K (K : PySem.W.Frag) (h : X.K = K := by rfl) : SlR X (rSlT K) := by subst h; exact sl_tup
theorem sll_K (K : PySem.W.Frag) (h : X.K = K := by rfl) : SlR X (rSlL K) := by subst h; exact sl_list
theorem in_K (K : PySem.W.Frag) (h : X.K = K := by rfl) : OpR X (compareOp .In) (rIn K false) := by subst h; exact op_in_seq
theorem notin_K (K : PySem.W.Frag) (h : X.K = K := by rfl) : OpR X (compareOp .NotIn) (rIn K true) := by subst h; exact op_notIn_seq
theorem fld_K {e : Expr} {f : Str} {pos : Pos} {ta : TE} (K : PySem.W.Frag) (he : PE X e ta) (hb : attributeBase e f X.env (eval e X.env) = eval e X.env) (h : X.K = K := by rfl) : PE X (.Attribute e f pos) (tFld K ta f) := by subst h; exact pe_fld he hb
end
end L2

namespace L2
open PySem PySem.Spec PyProof.Rows PySem.SeqAt
/-! ### data that is like itself -/
mutual
def noDict : PyData → Bool
  | .dict _ => false
  | .list xs => noDictAll xs
  | .tuple xs => noDictAll xs
  | _ => true
def noDictAll : List PyData → Bool
  | [] => true
  | x :: xs => noDict x && noDictAll xs
end
mutual
theorem noMix_self : ∀ d : PyData, noDict d = true → noMix d d = true ∧ same d d = true
  | .none, _ => ⟨rfl, rfl⟩
  | .bool b, _ => ⟨rfl, by simp [same]⟩
  | .int i, _ => ⟨rfl, by simp [same]⟩
  | .str x, _ => ⟨rfl, by simp [same]⟩
  | .list xs, h => by
    rw [noMix, same]
    exact noMixAll_self xs (by rw [noDict] at h; exact h)
  | .tuple xs, h => by
    rw [noMix, same]
    exact noMixAll_self xs (by rw [noDict] at h; exact h)
  | .dict _, h => by rw [noDict] at h; cases h
theorem noMixAll_self : ∀ xs : List PyData, noDictAll xs = true → noMixAll xs xs = true ∧ sameAll xs xs = true
  | [], _ => ⟨by rw [noMixAll], by rw [sameAll]⟩
  | x :: xs, h => by
    rw [noDictAll, Bool.and_eq_true] at h
    obtain ⟨a, b⟩ := noMix_self x h.1
    obtain ⟨c, d⟩ := noMixAll_self xs h.2
    rw [noMixAll, sameAll, a, b, c, d]
    exact ⟨rfl, rfl⟩
end
mutual
theorem canLay_noDict : ∀ d : PyData, d.canLay0 = true → noDict d = true
  | .none, _ => rfl
  | .bool b, _ => rfl
  | .int i, _ => rfl
  | .str x, _ => rfl
  | .list xs, h => by rw [noDict]; exact canLayAll_noDict xs (by rw [PyData.canLay0] at h; exact h)
  | .tuple xs, h => by rw [noDict]; exact canLayAll_noDict xs (by rw [PyData.canLay0] at h; exact h)
  | .dict _, h => by rw [PyData.canLay0] at h; cases h
theorem canLayAll_noDict : ∀ xs : List PyData, PyData.canLayAll0 xs = true → noDictAll xs = true
  | [], _ => by rw [noDictAll]
  | x :: xs, h => by
    rw [PyData.canLayAll0, Bool.and_eq_true] at h
    rw [noDictAll, canLay_noDict x h.1, canLayAll_noDict xs h.2]
    rfl
end
theorem self_of {d : PyData} (h : shaped d = true) : noMix d d = true ∧ same d d = true := noMix_self d (canLay_noDict d (canLay_of_shaped h))
theorem neD_self {K : PySem.W.Frag} {H : Hp} {x y : V} {Q : VK} {d : PyData} (hx : DatV K H x d) (hy : DatV K H y d) (hs : shaped d = true) (q : Q (.bl false) H) : rEqD K true x y H Q := by
  obtain ⟨a, b⟩ := self_of hs
  refine ⟨d, d, hx, hy, hs, hs, a, ?_⟩
  rw [if_pos rfl, b]
  exact q
theorem eqD_self {K : PySem.W.Frag} {H : Hp} {x y : V} {Q : VK} {d : PyData} (hx : DatV K H x d) (hy : DatV K H y d) (hs : shaped d = true) (q : Q (.bl true) H) : rEqD K false x y H Q := by
  obtain ⟨a, b⟩ := self_of hs
  refine ⟨d, d, hx, hy, hs, hs, a, ?_⟩
  rw [if_neg Bool.false_ne_true, b]
  exact q
theorem canLay_map {α : Type} {f : α → PyData} : ∀ {l : List α}, (∀ a ∈ l, (f a).canLay0 = true) → PyData.canLayAll0 (l.map f) = true
  | [], _ => by simp [PyData.canLayAll0]
  | a :: l, h => by
    rw [List.map_cons, PyData.canLayAll0, h a List.mem_cons_self, canLay_map fun b hb => h b (List.mem_cons_of_mem _ hb)]
    rfl
theorem depth_map {α : Type} {f : α → PyData} {k : Nat} : ∀ {l : List α}, (∀ a ∈ l, (f a).depth ≤ k) → PyData.depthAll (l.map f) ≤ k
  | [], _ => by simp [PyData.depthAll]
  | a :: l, h => by
    have h1 := h a List.mem_cons_self
    have h2 := depth_map fun b hb => h b (List.mem_cons_of_mem _ hb)
    simp only [List.map_cons, PyData.depthAll]
    omega
theorem shaped_map {α : Type} {f : α → PyData} {l : List α} (h1 : ∀ a ∈ l, (f a).canLay0 = true) (h2 : ∀ a ∈ l, (f a).depth ≤ 60) : shaped (.list (l.map f)) = true := by
  have d := depth_map h2
  unfold shaped
  rw [Bool.and_eq_true]
  refine ⟨by simp only [PyData.canLay0]; exact canLay_map h1, decide_eq_true ?_⟩
  simp only [PyData.depth]
  omega
theorem datVs_map {α : Type} {K : PySem.W.Frag} {H : Hp} {F : V → α → Prop} {f : α → PyData} (h : ∀ v a, F v a → DatV K H v (f a)) : ∀ {vs : List V} {l : List α}, Paired F vs l → DatVs K H vs (l.map f)
  | _, _, .nil => .nil
  | _, _, .cons g t => .cons (h _ _ g) (datVs_map h t)
end L2

namespace TL
open PySem PySem.Spec PyProof.Rows L2 L3

/-! ### trays: what waits, in the order in which it came -/
structure Ent where
  (t n num d : Int)
  deriving DecidableEq
def qOf (es : List Ent) (i : Nat) : List Ent := es.filter fun e => decide (e.n = (i : Int))
def EntAt (H : Hp) (v : V) (e : Ent) : Prop := ∃ p s, v = .ref p ∧ H p = some (.tup [.int e.t, .ref s]) ∧ H s = some (.tup [.int e.n, .int e.num, .int e.d])
def QAt (H : Hp) (b : Addr) (es : List Ent) : Prop := ∃ vs, H b = some (.lst vs) ∧ Paired (EntAt H) vs es
/-- the names that a Tray's class gives -/
def trayMs : List Str := ["add", "latest", "fronts", "take", "is_empty", "listed", "twin"]
structure WfE (tn : Int) (es : List Ent) : Prop where
  asc : es.Pairwise fun x y => x.t < y.t
  nm : ∀ e ∈ es, 0 ≤ e.n ∧ e.n < 12
  lt : ∀ e ∈ es, e.t < tn
structure TrayAt (H : Hp) (a C : Addr) (kd : Str) (tn : Int) (es : List Ent) (q : Addr) (qr : List Addr) : Prop where
  obj : ∃ dx fs, H a = some (.ins C dx fs) ∧ fs.lookup ("kind" : Str) = some (V.str kd) ∧ fs.lookup ("turn" : Str) = some (V.int tn) ∧ fs.lookup ("queues" : Str) = some (V.ref q) ∧ (∀ m ∈ trayMs, fs.lookup m = none) ∧ fs.length ≤ 20
  qs : H q = some (.lst (qr.map V.ref))
  len : qr.length = 12
  nd : qr.Nodup
  nq : q ∉ qr
  que : ∀ i b, qr[i]? = some b → QAt H b (qOf es i)
  wf : WfE tn es
/-- all but what stands at F stays (a table of codes may grow) -/
def KeepF (F : List Addr) (H H' : Hp) : Prop := ∀ b o, b ∉ F → (∀ ps, o ≠ .tbl ps) → H b = some o → H' b = some o
theorem KeepF.of {F : List Addr} {H H' : Hp} (s : Same H H') : KeepF F H H' := fun b o _ _ e => s b o e
theorem KeepF.trans {F : List Addr} {H H1 H2 : Hp} (a : KeepF F H H1) (b : KeepF F H1 H2) : KeepF F H H2 := fun c o h1 h2 e => b c o h1 h2 (a c o h1 h2 e)
theorem KeepF.refl {F : List Addr} (H : Hp) : KeepF F H H := fun _ _ _ _ e => e
theorem KeepF.mono {F G : List Addr} {H H' : Hp} (a : KeepF F H H') (h : ∀ b ∈ F, b ∈ G) : KeepF G H H' := fun c o h1 h2 e => a c o (fun z => h1 (h c z)) h2 e
theorem KeepF.ofP {P : Addr} {H H' : Hp} {ps : Array Value} (s : SameP P H H') (hP : H P = some (.tbl ps)) : KeepF [] H H' := fun b o _ n e => s b o (fun z => by rw [z, hP] at e; cases e; exact n ps rfl) e
theorem lamAt_keep {P : Addr} {pos : Pos} {qual : Str} {F : List Addr} {H H' : Hp} (h : LamAt P pos qual H) (k : ∀ b o, b ∉ F → H b = some o → H' b = some o) (hF : ∀ b ∈ F, ∀ o, H b = some o → (∃ C dx fs, o = .ins C dx fs) ∨ ∃ xs, o = .lst xs) : LamAt P pos qual H' := by
  obtain ⟨ps, hP, hc⟩ := h
  have nP : P ∉ F := fun z => by
    rcases hF P z _ hP with ⟨_, _, _, e⟩ | ⟨_, e⟩ <;> cases e
  refine ⟨ps, k P _ nP hP, ?_⟩
  rcases hc with e | ⟨c, e, hc⟩
  · exact .inl e
  · refine .inr ⟨c, e, k c _ (fun z => ?_) hc⟩
    rcases hF c z _ hc with ⟨_, _, _, e⟩ | ⟨_, e⟩ <;> cases e
theorem lamAt_same {P : Addr} {pos : Pos} {qual : Str} {H H' : Hp} (h : LamAt P pos qual H) (k : Same H H') : LamAt P pos qual H' := lamAt_keep (F := []) h (fun b o _ e => k b o e) fun b hb => nomatch hb
theorem EntAt.keep {F : List Addr} {H H' : Hp} {v : V} {e : Ent} (h : EntAt H v e) (k : ∀ b xs, H b = some (.tup xs) → H' b = some (.tup xs)) : EntAt H' v e := let ⟨p, s, e1, e2, e3⟩ := h; ⟨p, s, e1, k _ _ e2, k _ _ e3⟩
theorem pairedI {α β : Type} {F G : α → β → Prop} (f : ∀ a b, F a b → G a b) : ∀ {l : List α} {r : List β}, Paired F l r → Paired G l r
  | _, _, .nil => .nil
  | _, _, .cons h t => .cons (f _ _ h) (pairedI f t)
theorem QAt.keep {H H' : Hp} {b : Addr} {es : List Ent} (h : QAt H b es) (kb : ∀ o, H b = some o → H' b = some o) (k : ∀ b xs, H b = some (.tup xs) → H' b = some (.tup xs)) : QAt H' b es := let ⟨vs, e, r⟩ := h; ⟨vs, kb _ e, pairedI (fun _ _ z => z.keep (F := []) k) r⟩
theorem TrayAt.keep {H H' : Hp} {a C q : Addr} {kd : Str} {tn : Int} {es : List Ent} {qr : List Addr} (T : TrayAt H a C kd tn es q qr) (k : ∀ b ∈ a :: q :: qr, ∀ o, H b = some o → H' b = some o) (kt : ∀ b xs, H b = some (.tup xs) → H' b = some (.tup xs)) : TrayAt H' a C kd tn es q qr := by
  obtain ⟨⟨dx, fs, e, r⟩, qs, len, nd, nq, que, wf⟩ := T
  exact ⟨⟨dx, fs, k a (by simp) _ e, r⟩, k q (by simp) _ qs, len, nd, nq, fun i b hb => (que i b hb).keep (fun o => k b (by simp [List.mem_of_getElem? hb]) o) kt, wf⟩
theorem TrayAt.keepF {F : List Addr} {H H' : Hp} {a C q : Addr} {kd : Str} {tn : Int} {es : List Ent} {qr : List Addr} (T : TrayAt H a C kd tn es q qr) (k : KeepF F H H') (hF : ∀ b ∈ F, b ∉ a :: q :: qr) (hT : ∀ b ∈ F, ∀ xs, H b ≠ some (.tup xs)) : TrayAt H' a C kd tn es q qr := by
  refine T.keep (fun b hb o e => k b o (fun z => hF b z hb) (fun ps z => ?_) e) fun b xs e => k b _ (fun z => hT b z xs e) (fun ps z => by cases z) e
  subst z
  rcases List.mem_cons.mp hb with z | z
  · obtain ⟨dx, fs, e', _⟩ := T.obj
    rw [z, e'] at e; cases e
  · rcases List.mem_cons.mp z with z | z
    · rw [z, T.qs] at e; cases e
    · obtain ⟨i, hi, ez⟩ := List.getElem_of_mem z
      obtain ⟨vs, e', _⟩ := T.que i b (by rw [← ez]; exact List.getElem?_eq_getElem hi)
      rw [e'] at e; cases e
theorem TrayAt.keep0 {H H' : Hp} {a C q : Addr} {kd : Str} {tn : Int} {es : List Ent} {qr : List Addr} (T : TrayAt H a C kd tn es q qr) (k : KeepF [] H H') : TrayAt H' a C kd tn es q qr := T.keepF k (fun b hb => nomatch hb) fun b hb => nomatch hb
/-- what stands in a tray's own places -/
theorem TrayAt.kinds {H : Hp} {a C q : Addr} {kd : Str} {tn : Int} {es : List Ent} {qr : List Addr} (T : TrayAt H a C kd tn es q qr) : ∀ b ∈ a :: q :: qr, ∀ o, H b = some o → (∃ C dx fs, o = .ins C dx fs) ∨ ∃ xs, o = .lst xs := fun b hb o e => by
  rcases List.mem_cons.mp hb with z | z
  · obtain ⟨dx, fs, e', _⟩ := T.obj
    rw [z, e'] at e; cases e
    exact .inl ⟨_, _, _, rfl⟩
  · rcases List.mem_cons.mp z with z | z
    · rw [z, T.qs] at e; cases e
      exact .inr ⟨_, rfl⟩
    · obtain ⟨i, hi, ez⟩ := List.getElem_of_mem z
      obtain ⟨vs, e', _⟩ := T.que i b (by rw [← ez]; exact List.getElem?_eq_getElem hi)
      rw [e'] at e; cases e
      exact .inr ⟨_, rfl⟩
theorem TrayAt.there {H : Hp} {a C q : Addr} {kd : Str} {tn : Int} {es : List Ent} {qr : List Addr} (T : TrayAt H a C kd tn es q qr) : ∀ b ∈ a :: q :: qr, ∃ o, H b = some o := fun b hb => by
  rcases List.mem_cons.mp hb with z | z
  · obtain ⟨dx, fs, e', _⟩ := T.obj
    exact ⟨_, by rw [z]; exact e'⟩
  · rcases List.mem_cons.mp z with z | z
    · exact ⟨_, by rw [z]; exact T.qs⟩
    · obtain ⟨i, hi, ez⟩ := List.getElem_of_mem z
      obtain ⟨vs, e', _⟩ := T.que i b (by rw [← ez]; exact List.getElem?_eq_getElem hi)
      exact ⟨_, e'⟩

/-! ### the mirror -/
def latestM (es : List Ent) (i : Nat) : Option Ent := (qOf es i).getLast?
/-- the names that wait -/
def waitM (es : List Ent) : List Int := ((List.range 12).filter fun i => decide (qOf es i ≠ [])).map fun (i : Nat) => (i : Int)
def frontsM (kd : Str) (es : List Ent) : List Int := if kd = "row" then (es.head?.map (·.n)).toList else waitM es
/-- the first of a name goes -/
def dropM (es : List Ent) (n : Int) : List Ent := es.eraseP fun e => decide (e.n = n)
theorem qOf_nil (i : Nat) : qOf [] i = [] := rfl
theorem qOf_app (es : List Ent) (e : Ent) (i : Nat) : qOf (es ++ [e]) i = if e.n = (i : Int) then qOf es i ++ [e] else qOf es i := by
  unfold qOf
  rw [List.filter_append]
  by_cases h : e.n = (i : Int)
  · rw [if_pos h]; simp [h]
  · rw [if_neg h]; simp [h]
theorem mem_waitM {es : List Ent} {n : Int} : n ∈ waitM es ↔ ∃ i : Nat, i < 12 ∧ n = i ∧ qOf es i ≠ [] := by
  unfold waitM
  rw [List.mem_map]
  constructor
  · rintro ⟨i, hi, rfl⟩
    rw [List.mem_filter, List.mem_range] at hi
    exact ⟨i, hi.1, rfl, by simpa using hi.2⟩
  · rintro ⟨i, h1, rfl, h2⟩
    exact ⟨i, by rw [List.mem_filter, List.mem_range]; exact ⟨h1, by simpa using h2⟩, rfl⟩
theorem head_qOf {es : List Ent} {e : Ent} {i : Nat} (h : es.head? = some e) (hi : e.n = (i : Int)) : (qOf es i).head? = some e := by
  cases es with
  | nil => cases h
  | cons x r =>
    cases h
    unfold qOf
    rw [List.filter_cons, if_pos (by simpa using hi)]
    rfl
theorem wf_app {tn : Int} {es : List Ent} {n num d : Int} (w : WfE tn es) (h0 : 0 ≤ n) (h1 : n < 12) : WfE (tn + 1) (es ++ [⟨tn, n, num, d⟩]) := by
  refine ⟨List.pairwise_append.mpr ⟨w.asc, List.pairwise_singleton _ _, fun x hx y hy => ?_⟩, fun e he => ?_, fun e he => ?_⟩
  · rw [List.mem_singleton.mp hy]; exact w.lt x hx
  · rcases List.mem_append.mp he with z | z
    · exact w.nm e z
    · rw [List.mem_singleton.mp z]; exact ⟨h0, h1⟩
  · rcases List.mem_append.mp he with z | z
    · have := w.lt e z; omega
    · rw [List.mem_singleton.mp z]; show tn < tn + 1; omega
theorem wf_drop {tn : Int} {es : List Ent} (w : WfE tn es) (n : Int) : WfE tn (dropM es n) := by
  have sub : (dropM es n).Sublist es := List.eraseP_sublist
  exact ⟨w.asc.sublist sub, fun e he => w.nm e (sub.subset he), fun e he => w.lt e (sub.subset he)⟩
theorem qOf_drop (es : List Ent) (n : Int) (i : Nat) : qOf (dropM es n) i = if n = (i : Int) then (qOf es i).tail else qOf es i := by
  induction es with
  | nil => unfold dropM qOf; simp
  | cons e r ih =>
    unfold dropM at ih ⊢
    rw [List.eraseP_cons]
    by_cases h : e.n = n
    · rw [decide_eq_true h, cond_true]
      unfold qOf
      by_cases hi : n = (i : Int)
      · rw [if_pos hi, List.filter_cons, if_pos (by simpa using h.trans hi)]
        rfl
      · rw [if_neg hi, List.filter_cons, if_neg (by simpa using fun z : e.n = (i : Int) => hi (h.symm.trans z))]
    · rw [decide_eq_false h, cond_false]
      unfold qOf at ih ⊢
      rw [List.filter_cons, List.filter_cons]
      by_cases he : e.n = (i : Int)
      · have hni : ¬ n = (i : Int) := fun z => h (he.trans z.symm)
        rw [if_neg hni] at ih
        simp only [decide_eq_true he, if_true]
        rw [if_neg hni, ih]
      · simp only [decide_eq_false he, Bool.false_eq_true, if_false]
        rw [ih]
end TL

namespace TL
open PySem PySem.Spec PyProof.Rows L2 L3
def top (i : Nat) : Stmt := PySem.Challenge.pw_traylate_k21_trays.main.body.getD i (.Pass ⟨0, 0, 0, 0⟩)
end TL


namespace TL
open PySem PySem.Spec PyProof.Rows L2 L3
abbrev sWholeT : Stmt := top 7
abbrev sTI : Stmt := inClass (top 10) 0
abbrev sTAdd : Stmt := inClass (top 10) 1
abbrev sTLatest : Stmt := inClass (top 10) 2
abbrev sTFronts : Stmt := inClass (top 10) 3
abbrev sTTake : Stmt := inClass (top 10) 4
abbrev sTEmpty : Stmt := inClass (top 10) 5
abbrev sTListed : Stmt := inClass (top 10) 6
abbrev sTrayOf : Stmt := top 11
/-- Python's own names that trays use are not hidden -/
structure BT (mg : Str → Option Value) : Prop where
  isi : mg "isinstance" = none
  int : mg "int" = none
  bool : mg "bool" = none
  str : mg "str" = none
  len : mg "len" = none
  all : mg "all" = none
  range : mg "range" = none
  enum : mg "enumerate" = none
  min : mg "min" = none
  sorted : mg "sorted" = none
/-- the class of trays -/
structure TrCls (K : PySem.W.Frag) (C : Addr) : Prop where
  cl : Cls K C
  kind : NoAttr K C "kind"
  turn : NoAttr K C "turn"
  queues : NoAttr K C "queues"
section
variable {P : Program} {w : World} {K : PySem.W.Frag} {mg : Str → Option Value} {base : Heap}
def spWholeT : Sp := fun vs H Q _ => ∃ v T, vs = [v] ∧ tyName H v = some T ∧ Q (.bl (isW v)) H
theorem scWholeT : FnScope ["thing"] ["thing"] (defScope sWholeT) := ⟨rfl, rfl, rfl, by decide +kernel, rfl, by decide +kernel, by decide +kernel⟩
theorem ok_wholeT {f : Addr} {fd : FuncData} (F : Fun K "is_whole" "is_whole" sWholeT f fd) (B : BT mg) : FnOk P w K mg base CX0 1 f fd ["thing"] spWholeT := by
  refine F.ok scWholeT (fun vs H Q E h => ?_) (fun cdv A outer s H vs Q E hr h => ?_)
  · obtain ⟨v, T, rfl, _⟩ := h
    rfl
  · obtain ⟨v, T, rfl, ht, k⟩ := h
    refine ⟨_, pss_one (ps_ret (pe_and (pe_callB call_isi rfl B.isi boot_isinstance (pa_cons (pv 0) (pa_cons (pe_bltn (v := .ty "int") rfl B.int boot_int rfl) pa_nil)))
      (pe_one (pe_not (pe_callB call_isi rfl B.isi boot_isinstance (pa_cons (pv 0) (pa_cons (pe_bltn (v := .ty "bool") rfl B.bool boot_bool rfl) pa_nil))))))), ?_⟩
    have e := isW_of ht
    refine ⟨v, rfl, _, _, _, _, _, rfl, tyT ht, rfl, kitU ht (by decide), _, rfl, iteB (fun h1 => ?_) (fun h1 => ?_)⟩
    · refine ⟨v, rfl, _, _, _, _, _, rfl, tyT ht, rfl, kitU ht (by decide), _, rfl, ?_⟩
      rw [h1, Bool.true_and] at e
      rw [e]
      exact k
    · rw [h1, Bool.false_and] at e
      rw [e]
      exact k

/-! ### a new tray -/
def spTI (C : Addr) : Sp := fun vs H Q _ => ∃ x dx kd, vs = [.ref x, .str kd] ∧ H x = some (.ins C dx []) ∧ ∀ H' q qr, TrayAt H' x C kd 0 [] q qr → (∀ b o, b ≠ x → H b = some o → H' b = some o) → (∀ b ∈ q :: qr, H b = none) → Q .non H'
theorem scTI : FnScope ["self", "kind"] ["self", "kind"] (defScope sTI) := ⟨rfl, rfl, rfl, by decide +kernel, rfl, by decide +kernel, by decide +kernel⟩
theorem nd_name : (["name"] : List Str).Nodup := by decide +kernel
theorem lenF1 (f : Str) (u : V) : (putF f u []).length < 1000 := by
  have h1 := length_putF f u []
  have h3 : ([] : List (Str × V)).length = 0 := rfl
  omega
theorem lenF2 (f g : Str) (u v : V) : (putF f u (putF g v [])).length < 1000 := by
  have h1 := length_putF f u (putF g v [])
  have h2 := length_putF g v []
  have h3 : ([] : List (Str × V)).length = 0 := rfl
  omega
theorem tray_ms : ∀ m ∈ trayMs, ¬ m = "kind" ∧ ¬ m = "turn" ∧ ¬ m = "queues" := by decide +kernel
theorem fs3 (kd : Str) (q : Addr) : (putF "queues" (.ref q) (putF "turn" (.int 0) (putF "kind" (.str kd) []))) = [(("kind" : Str), V.str kd), (("turn" : Str), V.int 0), (("queues" : Str), V.ref q)] := by
  have n1 : ¬ ("kind" : Str) = "turn" := by decide +kernel
  have n2 : ¬ ("kind" : Str) = "queues" := by decide +kernel
  have n3 : ¬ ("turn" : Str) = "queues" := by decide +kernel
  simp only [putF, n1, n2, n3, if_false]
theorem ok_TI {f C : Addr} {fd : FuncData} (F : Fun K "__init__" "Tray.__init__" sTI f fd) (B : BT mg) (cT : TrCls K C) (mN : ∃ u, mg "NAMES" = some u ∧ RelV (.int 12) u) : FnOk P w K mg base CX0 1 f fd ["self", "kind"] (spTI C) := by
  obtain ⟨uN, mN, rN⟩ := mN
  refine F.ok scTI (fun vs H Q E h => ?_) (fun cdv A outer s H vs Q E hr h => ?_)
  · obtain ⟨x, dx, kd, rfl, _⟩ := h
    rfl
  · obtain ⟨x, dx, kd, rfl, hx, k⟩ := h
    refine ⟨_, pss_cons (ps_fld (pv 0) (pv 1) rfl) (pss_cons (ps_fld (pv 0) pe_int rfl) (pss_one (ps_fld (pv 0) (pe_comp (N := ["name"]) (idx := []) rfl (ScC.of (by kernel_rfl)) (gkeep_name (Nat.zero_le _))
      (pi_range1 rfl B.range (pa_cons (pe_glob rfl mN rN) pa_nil)) (fun _ _ _ _ => pg_name (i := 0) nd_name rfl (Or.inl rfl) (.inr rfl)) (fun _ _ _ _ => pts_nil) (fun _ _ _ _ => pe_lst pa_nil)) rfl))), ?_⟩
    refine ⟨_, rfl, _, rfl, x, C, dx, [], rfl, hx, cT.cl, cT.kind, by decide, ?_⟩
    refine ⟨_, rfl, x, C, dx, _, rfl, upd_same, cT.cl, cT.turn, lenF1 _ _, ?_⟩
    rw [upd_upd]
    refine ⟨12, rfl, by decide, by decide, ?_⟩
    generalize hH1 : upd H x (.ins C dx (putF "turn" (.int 0) (putF "kind" (.str kd) []))) = H1
    have hx1 : H1 x = some (.ins C dx (putF "turn" (.int 0) (putF "kind" (.str kd) []))) := by rw [← hH1]; exact upd_same
    have n1 : ∀ b, H1 b = none → H b = none := fun b e => by
      rw [← hH1] at e
      by_cases z : b = x
      · rw [z, upd_same] at e; cases e
      · rwa [upd_ne z] at e
    refine compW_of (n := 12) (fun i ys H' => ∃ qr : List Addr, ys = qr.map V.ref ∧ qr.length = i ∧ qr.Nodup ∧ (∀ b ∈ qr, H' b = some (.lst []) ∧ H1 b = none) ∧ Same H1 H') (by decide) ⟨[], rfl, rfl, .nil, (fun b hb => nomatch hb), Same.refl _⟩ ?_ ?_ ?_ ?_ ?_
    · rintro i ys H' ⟨qr, rfl, hl, _⟩
      rw [List.length_map, hl]; exact Nat.le_refl _
    · rintro i ys H' hi _
      exact hi
    · rintro ys H' _
      exact Nat.le_refl _
    · rintro i ys H' hi ⟨qr, rfl, hl, nd, hq, sm⟩ y H'' ⟨eH, ey⟩
      subst eH
      dsimp only [gName, tYes]
      rw [if_pos rfl]
      refine ⟨by decide, fun p hp => ⟨qr ++ [p], by simp, by simp [hl], ?_, fun b hb => ?_, same_new sm hp⟩⟩
      · refine List.nodup_append.mpr ⟨nd, by simp, fun b hb c hc => ?_⟩
        rw [List.mem_singleton.mp hc]
        exact ne_of_none (hq b hb).1 hp
      · rcases List.mem_append.mp hb with z | z
        · exact ⟨by rw [upd_ne (ne_of_none (hq b z).1 hp)]; exact (hq b z).1, (hq b z).2⟩
        · rw [List.mem_singleton.mp z]
          refine ⟨upd_same, ?_⟩
          cases e : H1 p with
          | none => rfl
          | some o => rw [sm _ _ e] at hp; cases hp
    · rintro ys H' ⟨qr, rfl, hl, nd, hq, sm⟩
      refine ⟨by rw [List.length_map, hl]; decide, fun q hq0 => ?_⟩
      have nx : x ≠ q := ne_of_none (sm _ _ hx1) hq0
      refine ⟨_, rfl, x, C, dx, _, rfl, by rw [upd_ne nx]; exact sm _ _ hx1, cT.cl, cT.queues, lenF2 _ _ _ _, ?_⟩
      have nqr : q ∉ qr := fun z => by rw [(hq q z).1] at hq0; cases hq0
      have xqr : x ∉ qr := fun z => by have := (hq x z).2; rw [hx1] at this; cases this
      refine k _ q qr ⟨⟨dx, _, upd_same, ?_, ?_, ?_, ?_, ?_⟩, by rw [upd_ne (Ne.symm nx), upd_same], hl, nd, nqr, fun i b hb => ⟨[], ?_, by rw [qOf_nil]; exact .nil⟩, ⟨.nil, (fun e he => nomatch he), (fun e he => nomatch he)⟩⟩ (fun b o hb e => ?_) fun b hb => ?_
      · rw [lookup_putF, if_neg (by decide +kernel), lookup_putF, if_neg (by decide +kernel), lookup_putF, if_pos rfl]
      · rw [lookup_putF, if_neg (by decide +kernel), lookup_putF, if_pos rfl]
      · rw [lookup_putF, if_pos rfl]
      · intro m hm
        obtain ⟨m1, m2, m3⟩ := tray_ms m hm
        rw [lookup_putF, if_neg m3, lookup_putF, if_neg m2, lookup_putF, if_neg m1]
        rfl
      · rw [fs3]; show 3 ≤ 20; decide
      · have hm := List.mem_of_getElem? hb
        have nbx : b ≠ x := fun z => xqr (z ▸ hm)
        have nbq : b ≠ q := fun z => nqr (z ▸ hm)
        rw [upd_ne nbx, upd_ne nbq]
        exact (hq b hm).1
      · have e1 : H1 b = some o := by rw [← hH1, upd_ne hb]; exact e
        have e2 := sm _ _ e1
        rw [upd_ne hb, upd_ne (ne_of_none e2 hq0)]
        exact e2
      · refine n1 b ?_
        rcases List.mem_cons.mp hb with z | z
        · subst z
          cases e : H1 b with
          | none => rfl
          | some o => rw [sm _ _ e] at hq0; cases hq0
        · exact (hq b z).2
end
end TL


namespace TL
open PySem PySem.Spec PyProof.Rows L2 L3
/-- all but what stands at F stays, tables too -/
def KeepA (F : List Addr) (H H' : Hp) : Prop := ∀ b o, b ∉ F → H b = some o → H' b = some o
theorem line20 {n : Nat} (h : n ≤ 20000) : n < sizeLine := by rw [sizeLine_eq]; omega
theorem qOf_len (es : List Ent) (i : Nat) : (qOf es i).length ≤ es.length := List.length_filter_le _ _
theorem paired_app {α β : Type} {F : α → β → Prop} {a : α} {b : β} : ∀ {l : List α} {r : List β}, Paired F l r → F a b → Paired F (l ++ [a]) (r ++ [b])
  | _, _, .nil, h => .cons h .nil
  | _, _, .cons g t, h => .cons g (paired_app t h)
theorem TrayAt.qref {H : Hp} {a C q : Addr} {kd : Str} {tn : Int} {es : List Ent} {qr : List Addr} (T : TrayAt H a C kd tn es q qr) {n : Int} (h0 : 0 ≤ n) (h1 : n < 12) : ∃ i : Nat, n = i ∧ i < 12 ∧ ∃ b, qr[i]? = some b ∧ atI (qr.map V.ref) n = some (.ref b) := by
  have hl := T.len
  obtain ⟨i, rfl⟩ : ∃ i : Nat, n = i := ⟨n.toNat, by omega⟩
  have hi : i < qr.length := by omega
  refine ⟨i, rfl, by omega, qr[i], List.getElem?_eq_getElem hi, atI_nat ?_⟩
  rw [List.getElem?_map, List.getElem?_eq_getElem hi]
  rfl
theorem lenPut {f : Str} {v : V} : ∀ (fs : List (Str × V)) (u : V), fs.lookup f = some v → (putF f u fs).length = fs.length
  | [], _, e => by cases e
  | (g, x) :: r, u, e => by
    by_cases h : g = f
    · simp only [putF, if_pos h, List.length_cons]
    · simp only [putF, if_neg h, List.length_cons]
      rw [lenPut r u]
      have hb : (f == g) = false := by simpa using fun z => h z.symm
      rw [List.lookup_cons, hb] at e
      exact e
section
variable {P : Program} {w : World} {K : PySem.W.Frag} {mg : Str → Option Value} {base : Heap}
def spAdd (C : Addr) : Sp := fun vs H Q _ => ∃ a n num d kd tn es q qr, vs = [.ref a, .int n, .int num, .int d] ∧ TrayAt H a C kd tn es q qr ∧ 0 ≤ n ∧ n < 12 ∧ es.length ≤ 20000 ∧
  ∀ H', TrayAt H' a C kd (tn + 1) (es ++ [⟨tn, n, num, d⟩]) q qr → KeepA (a :: q :: qr) H H' → Q .non H'
theorem scTAdd : FnScope ["self", "name", "number", "deed"] ["self", "name", "number", "deed"] (defScope sTAdd) := ⟨rfl, rfl, rfl, by decide +kernel, rfl, by decide +kernel, by decide +kernel⟩
theorem ok_TAdd {f C : Addr} {fd : FuncData} (F : Fun K "add" "Tray.add" sTAdd f fd) (cT : TrCls K C) : FnOk P w K mg base CX0 1 f fd ["self", "name", "number", "deed"] (spAdd C) := by
  refine F.ok scTAdd (fun vs H Q E h => ?_) (fun cdv A outer s H vs Q E hr h => ?_)
  · obtain ⟨a, n, num, d, kd, tn, es, q, qr, rfl, _⟩ := h
    rfl
  · obtain ⟨a, n, num, d, kd, tn, es, q, qr, rfl, T, h0, h1, hz, k⟩ := h
    refine ⟨_, pss_cons (ps_expr (pe_bm PySem.F.plainAttrs_list PySem.F.slot_list_append PySem.F.type_list_append mt_append (pe_ix ix_list (pe_fld (pv 0) rfl) (pv 1) (fun _ _ => rfl))
      (pa_cons (pe_tup (pa_cons (pe_fld (pv 0) rfl) (pa_cons (pe_tup (pa_cons (pv 1) (pa_cons (pv 2) (pa_cons (pv 3) pa_nil)))) pa_nil))) pa_nil))) (pss_one (ps_fldaug (pv 0) pe_int in_add)), ?_⟩
    obtain ⟨dx, fs, ea, e1, e2, e3, em, el⟩ := id T.obj
    obtain ⟨i, rfl, hi, b, hb, hat⟩ := T.qref h0 h1
    obtain ⟨vs, eb, rb⟩ := T.que i b hb
    have hbm : b ∈ qr := List.mem_of_getElem? hb
    have lv := Paired.length rb
    have lq := qOf_len es i
    refine ⟨_, rfl, a, C, dx, fs, _, rfl, ea, cT.cl, cT.queues, e3, _, rfl, q, _, _, .ref b, rfl, rfl, SqL.of T.qs, hat, .inl ⟨rfl, _, SqL.of eb⟩, ?_⟩
    refine ⟨_, rfl, a, C, dx, fs, _, rfl, ea, cT.cl, cT.turn, e2, _, rfl, _, rfl, _, rfl, by show 3 ≤ sizeLine; decide, fun st hst => ⟨by show 2 ≤ sizeLine; decide, fun p hp => ?_⟩⟩
    have nst : ∀ c o, H c = some o → c ≠ st := fun c o e => ne_of_none e hst
    have np : ∀ c o, H c = some o → c ≠ p := fun c o e => ne_of_none (by rw [upd_ne (nst c o e)]; exact e) hp
    have nsp : st ≠ p := ne_of_none upd_same hp
    have up : ∀ c o, H c = some o → upd (upd H st (.tup [.int (i : Int), .int num, .int d])) p (.tup [.int tn, .ref st]) c = some o := fun c o e => by rw [upd_ne (np c o e), upd_ne (nst c o e)]; exact e
    have nab : a ≠ b := ne_of ea eb (by intro z; cases z)
    have nqb : q ≠ b := fun z => T.nq (z ▸ hbm)
    refine ⟨b, vs, .ref p, rfl, rfl, up _ _ eb, line20 (by omega), ?_⟩
    refine ⟨_, rfl, a, C, dx, fs, _, rfl, by rw [upd_ne nab]; exact up _ _ ea, cT.cl, cT.turn, e2, _, _, rfl, rfl, dx, fs, by rw [upd_ne nab]; exact up _ _ ea, by omega, ?_⟩
    have pb : p ≠ b := Ne.symm (np b _ eb)
    have pa : p ≠ a := Ne.symm (np a _ ea)
    have sb : st ≠ b := Ne.symm (nst b _ eb)
    have sa : st ≠ a := Ne.symm (nst a _ ea)
    -- what the heap holds now
    generalize hH2 : upd (upd (upd (upd H st (.tup [.int (i : Int), .int num, .int d])) p (.tup [.int tn, .ref st])) b (.lst (vs ++ [.ref p]))) a (.ins C dx (putF "turn" (.int (tn + 1)) fs)) = H2
    have g0 : ∀ c o, c ≠ a → c ≠ b → H c = some o → H2 c = some o := fun c o z1 z2 e => by rw [← hH2, upd_ne z1, upd_ne z2]; exact up c o e
    have ga : H2 a = some (.ins C dx (putF "turn" (.int (tn + 1)) fs)) := by rw [← hH2]; exact upd_same
    have gb : H2 b = some (.lst (vs ++ [.ref p])) := by rw [← hH2, upd_ne (Ne.symm nab)]; exact upd_same
    have gp : H2 p = some (.tup [.int tn, .ref st]) := by rw [← hH2, upd_ne pa, upd_ne pb]; exact upd_same
    have gs : H2 st = some (.tup [.int (i : Int), .int num, .int d]) := by rw [← hH2, upd_ne sa, upd_ne sb, upd_ne nsp]; exact upd_same
    have kt : ∀ c xs, H c = some (.tup xs) → H2 c = some (.tup xs) := fun c xs e => g0 c _ (ne_of e ea (by intro z; cases z)) (ne_of e eb (by intro z; cases z)) e
    refine k H2 ⟨⟨dx, _, ga, ?_, ?_, ?_, fun m hm => ?_, ?_⟩, g0 q _ (ne_of T.qs ea (by intro z; cases z)) nqb T.qs, T.len, T.nd, T.nq, fun j c hc => ?_, wf_app T.wf h0 h1⟩ fun c o hc e => g0 c o (fun z => hc (by simp [z])) (fun z => hc (by simp [z, hbm])) e
    · rw [lookup_putF, if_neg (by decide +kernel)]; exact e1
    · rw [lookup_putF, if_pos rfl]
    · rw [lookup_putF, if_neg (by decide +kernel)]; exact e3
    · rw [lookup_putF, if_neg (tray_ms m hm).2.1]; exact em m hm
    · have := lenPut fs (.int (tn + 1)) e2
      omega
    · rw [qOf_app]
      by_cases z : j = i
      · subst z
        rw [hb] at hc; cases hc
        rw [if_pos rfl]
        exact ⟨_, gb, paired_app (pairedI (fun _ _ y => y.keep (F := []) kt) rb) ⟨p, st, rfl, gp, gs⟩⟩
      · rw [if_neg (fun y => z (by have : (i : Int) = (j : Int) := y; omega))]
        have ncb : c ≠ b := fun y => z (by
          subst y
          have n1 := List.getElem?_eq_some_iff.mp hc
          have n2 := List.getElem?_eq_some_iff.mp hb
          obtain ⟨p1, q1⟩ := n1
          obtain ⟨p2, q2⟩ := n2
          rcases Nat.lt_trichotomy j i with y | y | y
          · exact absurd (q1.trans q2.symm) (List.pairwise_iff_getElem.mp T.nd j i p1 p2 y)
          · exact y
          · exact absurd (q2.trans q1.symm) (List.pairwise_iff_getElem.mp T.nd i j p2 p1 y))
        refine (T.que j c hc).keep (fun o e => g0 c o (fun y => ?_) ncb e) kt
        obtain ⟨vs', e', _⟩ := T.que j c hc
        rw [y, ea] at e'; cases e'
end
end TL


namespace TL
open PySem PySem.Spec PyProof.Rows L2 L3
theorem paired_nil {α β : Type} {F : α → β → Prop} {r : List β} (h : Paired F [] r) : r = [] := by cases h; rfl
theorem paired_lastE {H : Hp} : ∀ {vs : List V} {l : List Ent}, Paired (EntAt H) vs l → vs ≠ [] → ∃ vs' v e, vs = vs' ++ [v] ∧ l.getLast? = some e ∧ EntAt H v e
  | _, _, .nil, h => absurd rfl h
  | _, _, .cons (a := v) (b := e) g .nil, _ => ⟨[], v, e, rfl, rfl, g⟩
  | _, _, .cons (a := v) (b := e) g (.cons h t), _ => by
    obtain ⟨vs', v', e', q1, q2, q3⟩ := paired_lastE (.cons h t) (by simp)
    exact ⟨v :: vs', v', e', by rw [q1]; rfl, by rw [List.getLast?_cons_cons]; exact q2, q3⟩
section
variable {P : Program} {w : World} {K : PySem.W.Frag} {mg : Str → Option Value} {base : Heap}
/-! ### latest -/
def spLatest (C : Addr) : Sp := fun vs H Q _ => ∃ a n kd tn es q qr, vs = [.ref a, .int n] ∧ TrayAt H a C kd tn es q qr ∧ 0 ≤ n ∧ n < 12 ∧ es.length ≤ 20000 ∧
  (latestM es n.toNat = none → Q .non H) ∧ ∀ e st, latestM es n.toNat = some e → H st = some (.tup [.int e.n, .int e.num, .int e.d]) → Q (.ref st) H
theorem scTLatest : FnScope ["self", "name", "queue"] ["self", "name"] (defScope sTLatest) := ⟨rfl, rfl, rfl, by decide +kernel, rfl, by decide +kernel, by decide +kernel⟩
theorem ok_TLatest {f C : Addr} {fd : FuncData} (F : Fun K "latest" "Tray.latest" sTLatest f fd) (B : BT mg) (cT : TrCls K C) : FnOk P w K mg base CX0 1 f fd ["self", "name"] (spLatest C) := by
  refine F.ok scTLatest (fun vs H Q E h => ?_) (fun cdv A outer s H vs Q E hr h => ?_)
  · obtain ⟨a, n, kd, tn, es, q, qr, rfl, _⟩ := h
    rfl
  · obtain ⟨a, n, kd, tn, es, q, qr, rfl, T, h0, h1, hz, k0, k1⟩ := h
    refine ⟨_, pss_cons (ps_set (i := 2) scTLatest.nd rfl (Or.inl rfl) (pe_ix ix_list (pe_fld (pv 0) rfl) (pv 1) (fun _ _ => rfl)))
      (pss_one (ps_ret (pe_ifExp (pt_cmpR op_eq (pe_callB call_len_seq rfl B.len PySem.boot_len (pa_cons (pv 2) pa_nil)) pe_int (nomark _)) pe_non (pe_ix ix_tup (pe_ix ix_list (pv 2) (pe_un un_neg pe_int) (fun _ _ => rfl)) pe_int (fun _ _ => rfl))))), ?_⟩
    obtain ⟨dx, fs, ea, e1, e2, e3, em, el⟩ := id T.obj
    obtain ⟨i, rfl, hi, b, hb, hat⟩ := T.qref h0 h1
    rw [Int.toNat_natCast] at k0 k1
    obtain ⟨vs, eb, rb⟩ := T.que i b hb
    refine ⟨_, rfl, a, C, dx, fs, _, rfl, ea, cT.cl, cT.queues, e3, _, rfl, q, _, _, .ref b, rfl, rfl, SqL.of T.qs, hat, ?_⟩
    refine ⟨_, rfl, b, _, rfl, .inl (SqL.of eb), rfl, _, rfl, iteD (fun z => ?_) (fun z => ?_)⟩
    · have hv : vs = [] := by
        injection z with z
        exact List.length_eq_zero_iff.mp (by omega)
      subst hv
      refine k0 ?_
      unfold latestM
      rw [paired_nil rb]
      rfl
    · have hv : vs ≠ [] := fun y => z (by rw [y]; rfl)
      obtain ⟨vs', v, e, q1, q2, p, st, rfl, q3, q4⟩ := paired_lastE rb hv
      subst q1
      refine ⟨_, rfl, _, rfl, b, _, -1, .ref p, rfl, rfl, SqL.of eb, atI_last _ _, p, _, _, .ref st, rfl, rfl, SqT.of q3, rfl, k1 e st q2 q4⟩
/-! ### is_empty -/
def spEmpty (C : Addr) : Sp := fun vs H Q _ => ∃ a kd tn es q qr, vs = [.ref a] ∧ TrayAt H a C kd tn es q qr ∧ ∀ H', Same H H' → Q (.bl (decide (es = []))) H'
theorem scTEmpty : FnScope ["self"] ["self"] (defScope sTEmpty) := ⟨rfl, rfl, rfl, by decide +kernel, rfl, by decide +kernel, by decide +kernel⟩
theorem nd_queue : (["queue"] : List Str).Nodup := by decide +kernel
theorem wait_none {tn : Int} {es : List Ent} (w : WfE tn es) (h : ∀ i, i < 12 → qOf es i = []) : es = [] := by
  cases es with
  | nil => rfl
  | cons e r =>
    obtain ⟨h0, h1⟩ := w.nm e List.mem_cons_self
    have := h e.n.toNat (by omega)
    unfold qOf at this
    rw [List.filter_cons, if_pos (by simp; omega)] at this
    cases this
theorem all_empty {tn : Int} {es : List Ent} (w : WfE tn es) : ((List.range 12).map fun i => decide (qOf es i = [])).all id = decide (es = []) := by
  by_cases h : es = []
  · subst h
    rfl
  · rw [decide_eq_false h, List.all_map]
    cases e : (List.range 12).all (id ∘ fun i => decide (qOf es i = [])) with
    | false => rfl
    | true =>
      exfalso
      exact h (wait_none w fun i hi => by simpa using List.all_eq_true.mp e i (List.mem_range.mpr hi))
theorem ok_TEmpty {f C : Addr} {fd : FuncData} (F : Fun K "is_empty" "Tray.is_empty" sTEmpty f fd) (B : BT mg) (cT : TrCls K C) : FnOk P w K mg base CX0 1 f fd ["self"] (spEmpty C) := by
  refine F.ok scTEmpty (fun vs H Q E h => ?_) (fun cdv A outer s H vs Q E hr h => ?_)
  · obtain ⟨a, kd, tn, es, q, qr, rfl, _⟩ := h
    rfl
  · obtain ⟨a, kd, tn, es, q, qr, rfl, T, k⟩ := h
    refine ⟨_, pss_one (ps_ret (pe_callB (call_all rfl) rfl B.all boot_all (pa_cons (pe_comp (N := ["queue"]) (idx := []) rfl (ScC.of (by kernel_rfl)) (gkeep_name (Nat.zero_le _)) (pi_list (pe_fld (pv 0) rfl))
      (fun _ _ _ _ => pg_name (i := 0) nd_queue rfl (Or.inl rfl) (.inr rfl)) (fun _ _ _ _ => pts_nil) (fun _ _ _ _ => pe_cmpR op_eq (pe_callB (len_K K) rfl B.len PySem.boot_len (pa_cons (pv 0) pa_nil)) pe_int (nomark _))) pa_nil))), ?_⟩
    obtain ⟨dx, fs, ea, e1, e2, e3, em, el⟩ := id T.obj
    refine ⟨_, rfl, a, C, dx, fs, _, rfl, ea, cT.cl, cT.queues, e3, q, rfl, ⟨_, SqL.of T.qs⟩, ?_⟩
    have hl := T.len
    refine compW_of (n := 12) (fun i ys H' => H' = H ∧ ys = (List.range i).map fun j => V.bl (decide (qOf es j = []))) (by decide) ⟨rfl, rfl⟩ ?_ ?_ ?_ ?_ ?_
    · rintro i ys H' ⟨_, rfl⟩
      rw [List.length_map, List.length_range]; exact Nat.le_refl _
    · rintro i ys H' hi ⟨rfl, _⟩
      exact ⟨_, V.ref (qr[i]'(by omega)), SqL.of T.qs, by rw [List.getElem?_map, List.getElem?_eq_getElem (by omega)]; rfl⟩
    · rintro ys H' ⟨rfl, _⟩
      exact ⟨_, SqL.of T.qs, by rw [List.length_map, hl]; exact Nat.le_refl _⟩
    · rintro i ys H' hi ⟨rfl, rfl⟩ y H'' ⟨eH, hy⟩
      subst eH
      have hy1 := hy _ (SqL.of T.qs)
      rw [List.getElem?_map, List.getElem?_eq_getElem (by omega)] at hy1
      cases hy1
      obtain ⟨vs, eb, rb⟩ := T.que i _ (List.getElem?_eq_getElem (by omega))
      dsimp only [gName, tYes]
      rw [if_pos rfl]
      refine ⟨_, rfl, _, _, rfl, .inl (SqL.of eb), rfl, rfl, ?_⟩
      rw [List.range_succ, List.map_append]
      congr 1
      have lv := Paired.length rb
      simp only [List.map_cons, List.map_nil, List.cons.injEq, V.bl.injEq, and_true]
      refine decide_eq_decide.mpr ⟨fun z => ?_, fun z => ?_⟩
      · injection z with z
        exact List.length_eq_zero_iff.mp (by omega)
      · rw [z] at lv
        rw [lv]
        rfl
    · rintro ys H' ⟨rfl, rfl⟩
      refine ⟨by rw [List.length_map, List.length_range]; decide, fun p hp => ?_⟩
      refine ⟨p, (List.range 12).map fun j => decide (qOf es j = []), rfl, SqL.of (by rw [upd_same, List.map_map]; rfl), ?_⟩
      rw [all_empty T.wf]
      exact k _ (same_new (Same.refl _) hp)
end
end TL


namespace TL
open PySem PySem.Spec PyProof.Rows L2 L3
def waitT (es : List Ent) (i : Nat) : List Int := ((List.range i).filter fun j => decide (qOf es j ≠ [])).map fun (j : Nat) => (j : Int)
theorem waitT_succ (es : List Ent) (i : Nat) : waitT es (i + 1) = waitT es i ++ (if qOf es i ≠ [] then [(i : Int)] else []) := by
  unfold waitT
  rw [List.range_succ, List.filter_append, List.map_append]
  congr 1
  by_cases h : qOf es i ≠ []
  · rw [if_pos h, List.filter_cons_of_pos (by simpa using h)]; rfl
  · rw [if_neg h, List.filter_cons_of_neg (by simpa using h)]; rfl
theorem waitT_len (es : List Ent) (i : Nat) : (waitT es i).length ≤ i := by
  unfold waitT
  rw [List.length_map]
  have h := List.length_filter_le (fun j => decide (qOf es j ≠ [])) (List.range i)
  rw [List.length_range] at h
  exact h
theorem waitM_T (es : List Ent) : waitM es = waitT es 12 := rfl
/-- the first setting's turn -/
def kfM (es : List Ent) (n : Int) : Int := ((qOf es n.toNat).head?.map (·.t)).getD 0
theorem head_in_wait {tn : Int} {es : List Ent} {e : Ent} (w : WfE tn es) (h : es.head? = some e) : e.n ∈ waitM es := by
  have hm : e ∈ es := by
    cases es with
    | nil => cases h
    | cons x r => cases h; exact List.mem_cons_self
  obtain ⟨h0, h1⟩ := w.nm e hm
  refine mem_waitM.mpr ⟨e.n.toNat, by omega, by omega, fun z => ?_⟩
  have := head_qOf (i := e.n.toNat) h (by omega)
  rw [z] at this; cases this
theorem row_min {tn : Int} {es : List Ent} {m : Int} (w : WfE tn es) (hm : m ∈ waitM es) (hb : ∀ n ∈ waitM es, kfM es m ≤ kfM es n) : (es.head?.map (·.n)).toList = [m] := by
  obtain ⟨i, hi, rfl, hne⟩ := mem_waitM.mp hm
  cases es with
  | nil => exact absurd rfl hne
  | cons e r =>
    have h1 := hb e.n (head_in_wait w rfl)
    obtain ⟨n0, n1⟩ := w.nm e List.mem_cons_self
    have k1 : kfM (e :: r) e.n = e.t := by
      unfold kfM
      rw [head_qOf (i := e.n.toNat) (e := e) rfl (by omega)]
      rfl
    cases q : qOf (e :: r) i with
    | nil => exact absurd q hne
    | cons x l =>
      have k2 : kfM (e :: r) (i : Int) = x.t := by
        unfold kfM
        rw [Int.toNat_natCast, q]
        rfl
      have hx : x ∈ qOf (e :: r) i := by rw [q]; exact List.mem_cons_self
      unfold qOf at hx
      obtain ⟨hx1, hx2⟩ := List.mem_filter.mp hx
      have hn : x.n = (i : Int) := by simpa using hx2
      rcases List.mem_cons.mp hx1 with z | z
      · show [e.n] = [(i : Int)]
        rw [← z, hn]
      · have := (List.pairwise_cons.mp w.asc).1 x z
        rw [k1, k2] at h1
        omega
theorem row_few {tn : Int} {es : List Ent} (w : WfE tn es) (h : ¬ 1 < (waitM es).length) : (es.head?.map (·.n)).toList = waitM es := by
  cases es with
  | nil => rfl
  | cons e r =>
    have hm := head_in_wait (e := e) w rfl
    match q : waitM (e :: r) with
    | [] => rw [q] at hm; cases hm
    | [x] =>
      rw [q] at hm
      rw [← List.mem_singleton.mp hm]
      rfl
    | _ :: _ :: _ =>
      rw [q] at h
      simp at h
abbrev LP : Pos := ⟨35, 35, 35, 71⟩
abbrev LQ : Str := ("Tray.fronts" : Str) ++ ".<locals>." ++ "<lambda>"
section
variable {P : Program} {w : World} {K : PySem.W.Frag} {mg : Str → Option Value} {base : Heap}
def spFronts (C PT : Addr) : Sp := fun vs H Q _ => ∃ a kd tn es q qr, vs = [.ref a] ∧ TrayAt H a C kd tn es q qr ∧ LamAt PT LP LQ H ∧
  ∀ H' l, KeepF [] H H' → LamAt PT LP LQ H' → H l = none → H' l = some (.lst ((frontsM kd es).map V.int)) → Q (.ref l) H'
theorem scTFronts : FnScope ["self", "names"] ["self"] (defScope sTFronts) := ⟨rfl, rfl, rfl, by decide +kernel, rfl, by decide +kernel, by decide +kernel⟩
theorem nd_nq : (["name", "queue"] : List Str).Nodup := by decide +kernel
theorem strD {x y : Str} (h : ¬ V.str x = V.str y) : ¬ x = y := fun e => h (by rw [e])
theorem strE {x y : Str} (h : V.str x = V.str y) : x = y := by injection h
theorem same_keepP {PT : Addr} {H H1 H2 : Hp} {ps : Array Value} (s : Same H H1) (t : SameP PT H1 H2) (hP : H1 PT = some (.tbl ps)) : KeepF [] H H2 := (KeepF.of s).trans (KeepF.ofP t hP)
theorem ok_TFronts {f C PT c : Addr} {fd : FuncData} (F : FunC K "fronts" "Tray.fronts" sTFronts f fd c) (B : BT mg) (cT : TrCls K C) (hC : PySem.W.CodeHd base c PT) (hB : BmAt mg base) : FnOk P w K mg base CX0 2 f fd ["self"] (spFronts C PT) := by
  refine F.ok scTFronts (fun vs H Q E h => ?_) (fun A outer s H vs Q E hr h => ?_)
  · obtain ⟨a, kd, tn, es, q, qr, rfl, _⟩ := h
    rfl
  · obtain ⟨a, kd, tn, es, q, qr, rfl, T, hlam, k⟩ := h
    have hrm := hr.dp
    refine ⟨_, pss_cons (ps_setComp (i := 1) (N := ["name", "queue"]) (idx := []) scTFronts.nd rfl rfl rfl (ScC.of (by kernel_rfl)) (gkeep_pair (Nat.zero_le _) (Nat.zero_le _)) (pi_enum (b := true) rfl B.enum (pa_cons (pe_fld (pv 0) rfl) pa_nil))
        (fun _ _ _ _ => pg_tup rfl (pgs_cons (pg_name (i := 0) nd_nq rfl (Or.inl rfl) (.inr rfl)) (pgs_cons (pg_name (i := 1) nd_nq rfl (Or.inl rfl) (.inr rfl)) pgs_nil)))
        (fun _ _ _ _ => pts_one (pt_cmpR op_gt (pe_callB (len_K K) rfl B.len PySem.boot_len (pa_cons (pv 1) pa_nil)) pe_int (nomark _))) (fun _ _ _ _ => pv 0))
      (pss_cons (ps_if (PW.pt (pw_and (pt_cmpR op_eq (pe_fld (pv 0) rfl) pe_str (nomark _)) (pw_and1 (pt_cmpR op_gt (pe_callB call_len_seq rfl B.len PySem.boot_len (pa_cons (pv 1) pa_nil)) pe_int (nomark _)))))
        (pss_one (ps_ret (pe_lst (pa_cons (pe_minLam (N := ["self", "name"]) (idx := [0]) (k := 1) (px := "name") (P := PT) rfl (by show A.depth + 1 + 5 < _; have h1 : A.depth + 1 + 3 * 1 + 5 < recursionLimit := hrm; omega) rfl B.min (pv 1) (ScC.of (by kernel_rfl)) rfl hC hB rfl rfl (by decide)
          (fun _ _ _ _ _ _ => pe_ix (ixt_K K) (pe_ix (ixl_K K) (pe_ix (ixl_K K) (fld_K K (pv 0) rfl) (pv 1) (fun _ _ => rfl)) pe_int (fun _ _ => rfl)) pe_int (fun _ _ => rfl)) (fun _ _ _ _ _ _ => rfl)) pa_nil)))) pss_nil)
      (pss_one (ps_ret (pv 1)))), ?_⟩
    obtain ⟨dx, fs, ea, e1, e2, e3, em, el⟩ := id T.obj
    have hl := T.len
    refine ⟨_, rfl, a, C, dx, fs, _, rfl, ea, cT.cl, cT.queues, e3, q, _, rfl, SqL.of T.qs, ?_⟩
    refine compW_of (n := 12) (fun i ys H' => Same H H' ∧ ys = (waitT es i).map V.int) (by decide) ⟨Same.refl _, rfl⟩ ?_ ?_ ?_ ?_ ?_
    · rintro i ys H' ⟨_, rfl⟩
      rw [List.length_map]
      exact waitT_len es i
    · rintro i ys H' hi ⟨sm, _⟩
      exact ⟨_, V.ref (qr[i]'(by omega)), SqL.of (sm _ _ T.qs), by rw [List.getElem?_map, List.getElem?_eq_getElem (by omega)]; rfl⟩
    · rintro ys H' ⟨sm, _⟩
      exact ⟨_, SqL.of (sm _ _ T.qs), by rw [List.length_map, hl]; exact Nat.le_refl _⟩
    · rintro i ys H' hi ⟨sm, rfl⟩ y H'' ⟨p, x, hp, ey, eH, hx⟩
      subst ey
      subst eH
      have hx1 := hx _ (SqL.of (sm _ _ T.qs))
      rw [List.getElem?_map, List.getElem?_eq_getElem (by omega)] at hx1
      cases hx1
      obtain ⟨vs, eb, rb⟩ := T.que i _ (List.getElem?_eq_getElem (by omega))
      have s2 : Same H (upd H' p (.tup [.int i, .ref qr[i]])) := same_new sm hp
      have lv := Paired.length rb
      refine ⟨p, _, rfl, SqT.of upd_same, rfl, _, _, rfl, _, _, rfl, rfl, ?_⟩
      refine ⟨_, rfl, _, _, rfl, .inl (SqL.of (s2 _ _ eb)), _, _, rfl, rfl, _, rfl, iteD (fun z => ?_) (fun z => ?_)⟩
      · refine ⟨_, rfl, s2, ?_⟩
        rw [waitT_succ, if_pos (fun y => by rw [y] at lv; rw [lv] at z; exact absurd z (by simp)), List.map_append]
        rfl
      · refine ⟨s2, ?_⟩
        rw [waitT_succ, if_neg (fun y => y (List.length_eq_zero_iff.mp (by omega))), List.append_nil]
    · rintro ys H' ⟨sm, rfl⟩
      have wl := waitT_len es 12
      refine ⟨by rw [List.length_map]; exact Nat.le_of_lt (small1000 (by omega)), fun l1 hn1 => ?_⟩
      have s1 : Same H (upd H' l1 (.lst ((waitT es 12).map V.int))) := same_new sm hn1
      generalize hH1 : upd H' l1 (.lst ((waitT es 12).map V.int)) = H1 at s1
      have hl1 : H1 l1 = some (.lst ((waitM es).map V.int)) := by rw [← hH1]; exact upd_same
      have nl1 : H l1 = none := by
        cases e : H l1 with
        | none => rfl
        | some o => rw [sm _ _ e] at hn1; cases hn1
      have lam1 := lamAt_same hlam s1
      have T1 : TrayAt H1 a C kd tn es q qr := T.keep0 (KeepF.of s1)
      obtain ⟨dx1, fs1, ea1, f1, f2, f3, _, _⟩ := id T1.obj
      have done : (waitM es).length ≤ 12 := wl
      refine ⟨_, rfl, a, C, dx1, fs1, _, rfl, ea1, cT.cl, cT.kind, f1, rfl, _, rfl, ?_⟩
      by_cases hk : kd = "row"
      · rw [decide_eq_true (show V.str kd = V.str "row" by rw [hk])]
        refine iteT ⟨_, rfl, l1, _, rfl, .inl (SqL.of hl1), _, _, rfl, rfl, _, rfl, iteD (fun z => ?_) (fun z => ?_)⟩
        · rw [List.length_map] at z
          refine ⟨_, rfl, l1, waitM es, kfM es, rfl, SqL.of hl1, by omega, lam1, fun H2 sp lam2 => ?_⟩
          obtain ⟨ps, hPT, _⟩ := id lam1
          have kp := KeepF.ofP sp hPT
          have T2 : TrayAt H2 a C kd tn es q qr := T1.keep0 kp
          have hl2 := kp l1 _ (by simp) (fun ps z => by cases z) hl1
          refine ⟨SqL.of hl2, fun m hm => ?_, fun m hm hb => ?_⟩
          · obtain ⟨i, hi, rfl, hne⟩ := mem_waitM.mp hm
            obtain ⟨dx2, fs2, ea2, g1, g2, g3, _, _⟩ := id T2.obj
            obtain ⟨vs, eb, rb⟩ := T2.que i _ (List.getElem?_eq_getElem (by omega))
            cases rb' : qOf es i with
            | nil => exact absurd rb' hne
            | cons x r =>
              rw [rb'] at rb
              cases rb with
              | cons hx hr' =>
                obtain ⟨p, st, rfl, q1, q2⟩ := hx
                refine ⟨_, rfl, a, C, dx2, fs2, _, rfl, ea2, cT.cl, cT.queues, g3, _, rfl, q, _, _, .ref (qr[i]'(by omega)), rfl, rfl, SqL.of T2.qs, ?_, _, _, _, .ref p, rfl, rfl, SqL.of eb, atI_nat (j := 0) rfl, p, _, _, .int x.t, rfl, rfl, SqT.of q1, atI_nat (j := 0) rfl, ?_, rfl⟩
                · exact atI_nat (by rw [List.getElem?_map, List.getElem?_eq_getElem (by omega)]; rfl)
                · unfold kfM
                  rw [Int.toNat_natCast, rb']
                  rfl
          · refine ⟨by show 1 ≤ sizeLine; decide, fun l hn => ?_⟩
            refine k _ l ((same_keepP s1 sp hPT).trans (KeepF.of (same_new (Same.refl _) hn))) (lamAt_same lam2 (same_new (Same.refl _) hn)) ?_ ?_
            · cases e : H l with
              | none => rfl
              | some o =>
                by_cases zp : l = PT
                · obtain ⟨ps2, h2, _⟩ := lam2
                  rw [zp, h2] at hn; cases hn
                · rw [sp _ _ zp (s1 _ _ e)] at hn; cases hn
            · rw [upd_same]
              unfold frontsM
              rw [if_pos hk, row_min T.wf hm hb]
              rfl
        · rw [List.length_map] at z
          refine ⟨_, rfl, k H1 l1 (KeepF.of s1) lam1 nl1 ?_⟩
          rw [hl1]
          unfold frontsM
          rw [if_pos hk, row_few T.wf (by omega)]
      · rw [decide_eq_false (show ¬ V.str kd = V.str "row" from fun z => hk (strE z))]
        refine iteF (iteF ⟨_, rfl, k H1 l1 (KeepF.of s1) lam1 nl1 ?_⟩)
        rw [hl1]
        unfold frontsM
        rw [if_neg hk]
end
end TL


namespace TL
open PySem PySem.Spec PyProof.Rows L2 L3
theorem in_ints (n : Int) (ns : List Int) : inV (.int n) (ns.map V.int) = decide (n ∈ ns) := by
  unfold inV
  induction ns with
  | nil => rfl
  | cons m r ih =>
    rw [List.map_cons, List.any_cons, ih]
    by_cases h : m = n
    · subst h
      simp [eqV]
    · have : eqV (.int m) (.int n) = false := by simp [eqV, h]
      rw [this, Bool.false_or]
      exact decide_eq_decide.mpr ⟨fun z => List.mem_cons_of_mem _ z, fun z => (List.mem_cons.mp z).resolve_left fun y => h y.symm⟩
theorem flat_ints (ns : List Int) : (ns.map V.int).all flatV = true := by
  rw [List.all_map]
  exact List.all_eq_true.mpr fun _ _ => rfl
theorem fronts_in {kd : Str} {tn : Int} {es : List Ent} {n : Int} (w : WfE tn es) (h : n ∈ frontsM kd es) : ∃ i : Nat, i < 12 ∧ n = i ∧ ∃ e r, qOf es i = e :: r := by
  have hw : n ∈ waitM es := by
    unfold frontsM at h
    by_cases hk : kd = "row"
    · rw [if_pos hk] at h
      cases es with
      | nil => cases h
      | cons e r =>
        have e1 : n = e.n := by simpa using h
        rw [e1]
        exact head_in_wait w rfl
    · rw [if_neg hk] at h; exact h
  obtain ⟨i, hi, e, hne⟩ := mem_waitM.mp hw
  refine ⟨i, hi, e, ?_⟩
  cases q : qOf es i with
  | nil => exact absurd q hne
  | cons x r => exact ⟨x, r, rfl⟩
section
variable {P : Program} {w : World} {K : PySem.W.Frag} {mg : Str → Option Value} {base : Heap}
/-! ### take -/
def spTake (C PT cMove : Addr) : Sp := fun vs H Q E => ∃ a n kd tn es q qr, vs = [.ref a, .int n] ∧ TrayAt H a C kd tn es q qr ∧ LamAt PT LP LQ H ∧
  (n ∈ frontsM kd es → ∀ H' e st, (qOf es n.toNat).head? = some e → TrayAt H' a C kd tn (dropM es n) q qr → KeepF (a :: q :: qr) H H' → LamAt PT LP LQ H' → H' st = some (.tup [.int e.n, .int e.num, .int e.d]) → Q (.ref st) H') ∧
  (n ∉ frontsM kd es → ∀ H', KeepF [] H H' → LamAt PT LP LQ H' → E (.ref cMove) none H')
theorem scTTake : FnScope ["self", "name"] ["self", "name"] (defScope sTTake) := ⟨rfl, rfl, rfl, by decide +kernel, rfl, by decide +kernel, by decide +kernel⟩
theorem ok_TTake {f fW fF C PT c cMove : Addr} {fd fdW fdF : FuncData} (F : Fun K "take" "Tray.take" sTTake f fd) (B : BT mg) (cT : TrCls K C) (hC : PySem.W.CodeHd base c PT) (hB : BmAt mg base)
    (FW : Fun K "is_whole" "is_whole" sWholeT fW fdW) (bW : Binds K fdW ["thing"] []) (mW : mg "is_whole" = some (.ref fW)) (FF : FunC K "fronts" "Tray.fronts" sTFronts fF fdF c) (bF : Binds K fdF ["self"] []) (mF : Meth K C "fronts" fF)
    (xc : XC K cMove) (mM : mg "NoMove" = some (.ref cMove)) : FnOk P w K mg base (CXE P w) 3 f fd ["self", "name"] (spTake C PT cMove) := by
  have GW : FnOk P w K mg base CX0 1 fW fdW ["thing"] spWholeT := ok_wholeT FW B
  have GF : FnOk P w K mg base CX0 2 fF fdF ["self"] (spFronts C PT) := ok_TFronts FF B cT hC hB
  refine F.okX scTTake (fun vs H Q E h => ?_) (fun cdv A outer s H vs Q E hr hL hp h => ?_)
  · obtain ⟨a, n, kd, tn, es, q, qr, rfl, _⟩ := h
    rfl
  · obtain ⟨a, n, kd, tn, es, q, qr, rfl, T, hlam, k1, k2⟩ := h
    refine ⟨_, pss_cons (ps_if (PW.pt (pw_or (pt_not (pt_val (pe_call GW (hr.mono (by decide)) rfl mW FW.kp bW .nil pass0 (pa_cons (pv 1) pa_nil))))
        (pw_or1 (pt_cmpR op_notIn_seq (pv 1) (pe_meth0 (pv 0) cT.cl mF GF hr bF .nil pass0) rfl)))) (pss_one (ps_raise rfl hL xc rfl mM (pa_cons pe_str pa_nil))) pss_nil)
      (pss_one (ps_ret (pe_ix ix_tup (pe_bm PySem.F.plainAttrs_list PySem.F.slot_list_pop PySem.F.type_list_pop mt_popAt (pe_ix ix_list (pe_fld (pv 0) rfl) (pv 1) (fun _ _ => rfl)) (pa_cons pe_int pa_nil)) pe_int (fun _ _ => rfl)))), ?_⟩
    obtain ⟨dx, fs, ea, e1, e2, e3, em, el⟩ := id T.obj
    refine ⟨_, rfl, .int n, "int", rfl, rfl, _, rfl, ?_⟩
    refine iteF ⟨_, rfl, _, rfl, a, dx, fs, rfl, ea, em "fronts" (by decide +kernel), a, kd, tn, es, q, qr, rfl, T, hlam, fun H1 l kp lam1 hn hl => ?_⟩
    refine ⟨l, _, rfl, .inl (SqL.of hl), rfl, flat_ints _, _, rfl, ?_⟩
    rw [if_pos rfl, in_ints]
    refine iteNB (fun z => ?_) (fun z => ?_)
    · exact ⟨by decide, k2 (of_decide_eq_false z) H1 kp lam1⟩
    · have hin := of_decide_eq_true z
      have T1 := T.keep0 kp
      obtain ⟨i, hi, rfl, e, r, he⟩ := fronts_in T.wf hin
      obtain ⟨dx1, fs1, ea1, f1, f2, f3, fm, fl⟩ := id T1.obj
      have hl12 := T1.len
      have hb : qr[i]? = some (qr[i]'(by omega)) := List.getElem?_eq_getElem (by omega)
      obtain ⟨vs, eb, rb⟩ := T1.que i _ hb
      have hbm := List.mem_of_getElem? hb
      generalize qr[i]'(by omega) = b at hb eb hbm
      rw [he] at rb
      cases rb with
      | cons hx hr' =>
        obtain ⟨p, st, rfl, q1, q2⟩ := hx
        rename_i vs'
        refine ⟨_, rfl, a, C, dx1, fs1, _, rfl, ea1, cT.cl, cT.queues, f3, _, rfl, q, _, _, .ref b, rfl, rfl, SqL.of T1.qs, atI_nat (by rw [List.getElem?_map, hb]; rfl), .inl ⟨rfl, _, SqL.of eb⟩, ?_⟩
        refine ⟨b, _, 0, 0, .ref p, rfl, rfl, eb, by decide, by decide, by simp [seqIndex?], rfl, ?_⟩
        have npb : p ≠ b := ne_of q1 eb (by intro z; cases z)
        have nsb : st ≠ b := ne_of q2 eb (by intro z; cases z)
        refine ⟨p, _, _, .ref st, rfl, rfl, SqT.of (by rw [upd_ne npb]; exact q1), atI_nat (j := 1) rfl, ?_⟩
        have ka : KeepA (a :: q :: qr) H1 (upd H1 b (.lst vs')) := fun c o hc ec => by
          rw [upd_ne (fun z => hc (by simp [z, hbm]))]; exact ec
        have kt : ∀ c xs, H1 c = some (.tup xs) → upd H1 b (.lst vs') c = some (.tup xs) := fun c xs ec => by rw [upd_ne (ne_of ec eb (by intro z; cases z))]; exact ec
        have nab : a ≠ b := ne_of ea1 eb (by intro z; cases z)
        have nqb : q ≠ b := fun z => T1.nq (z ▸ hbm)
        refine k1 hin _ e st (by rw [Int.toNat_natCast, he]; rfl) ⟨⟨dx1, fs1, by rw [upd_ne nab]; exact ea1, f1, f2, f3, fm, fl⟩, by rw [upd_ne nqb]; exact T1.qs, T1.len, T1.nd, T1.nq, fun j c hc => ?_, wf_drop T1.wf _⟩
          (fun c o hc ht ec => ka c o hc (kp c o (by simp) ht ec)) (lamAt_keep lam1 ka T1.kinds) (by rw [upd_ne nsb]; exact q2)
        rw [qOf_drop]
        by_cases zj : j = i
        · subst zj
          rw [hb] at hc; cases hc
          rw [if_pos rfl, he]
          exact ⟨vs', upd_same, pairedI (fun _ _ y => y.keep (F := []) kt) hr'⟩
        · rw [if_neg (fun y => zj (by have : (i : Int) = (j : Int) := y; omega))]
          have ncb : c ≠ b := fun y => zj (by
            subst y
            obtain ⟨p1, q1⟩ := List.getElem?_eq_some_iff.mp hc
            obtain ⟨p2, q2⟩ := List.getElem?_eq_some_iff.mp hb
            rcases Nat.lt_trichotomy j i with y | y | y
            · exact absurd (q1.trans q2.symm) (List.pairwise_iff_getElem.mp T1.nd j i p1 p2 y)
            · exact y
            · exact absurd (q2.trans q1.symm) (List.pairwise_iff_getElem.mp T1.nd i j p2 p1 y))
          exact (T1.que j c hc).keep (fun o e => by rw [upd_ne ncb]; exact e) kt
/-! ### tray_of -/
def spTrayOf (C PT cKind : Addr) : Sp := fun vs H Q E => ∃ v T, vs = [v] ∧ tyName H v = some T ∧
  ((v = .str "row" ∨ v = .str "name" ∨ v = .str "none") → ∀ kd H' x q qr, v = .str kd → TrayAt H' x C kd 0 [] q qr → KeepA [] H H' → (∀ b ∈ x :: q :: qr, H b = none) → Q (.ref x) H') ∧
  (¬ (v = .str "row" ∨ v = .str "name" ∨ v = .str "none") → E (.ref cKind) none H)
theorem scTrayOf : FnScope ["kind"] ["kind"] (defScope sTrayOf) := ⟨rfl, rfl, rfl, by decide +kernel, rfl, by decide +kernel, by decide +kernel⟩
theorem isiStrT {H : Hp} {v : V} {T : String} (h : tyName H v = some T) : isiB T "str" = true ↔ ∃ x, v = .str x := by
  constructor
  · intro z
    cases v with
    | str x => exact ⟨x, rfl⟩
    | non => cases h; cases z
    | bl b => cases h; cases z
    | int i => cases h; cases z
    | ref a =>
      unfold tyName at h
      cases e : H a with
      | none => simp only [e] at h; cases h
      | some o =>
        cases o with
        | lst xs => simp only [e] at h; cases h; cases z
        | tup xs => simp only [e] at h; cases h; cases z
        | _ => simp only [e] at h; cases h
    | _ => cases h
  · rintro ⟨x, rfl⟩
    cases h
    rfl
end
end TL


namespace TL
open PySem PySem.Spec PyProof.Rows L2 L3
/-! ### what waits, by its turns -/
theorem flat_perm {e : Ent} {f : Nat → List Ent} : ∀ n : Nat, ((∃ k : Nat, k < n ∧ e.n = (k : Int)) → List.Perm ((List.range n).flatMap fun (i : Nat) => if e.n = (i : Int) then e :: f i else f i) (e :: (List.range n).flatMap f)) ∧
    ((¬ ∃ k : Nat, k < n ∧ e.n = (k : Int)) → ((List.range n).flatMap fun (i : Nat) => if e.n = (i : Int) then e :: f i else f i) = (List.range n).flatMap f)
  | 0 => ⟨fun ⟨k, hk, _⟩ => absurd hk (Nat.not_lt_zero _), fun _ => rfl⟩
  | n + 1 => by
    obtain ⟨i1, i2⟩ := flat_perm (e := e) (f := f) n
    have eF : ∀ g : Nat → List Ent, (List.range (n + 1)).flatMap g = (List.range n).flatMap g ++ g n := fun g => by rw [List.range_succ, List.flatMap_append]; simp
    rw [eF, eF]
    constructor
    · rintro ⟨k, hk, ek⟩
      by_cases h : e.n = (n : Int)
      · have hno : ¬ ∃ k : Nat, k < n ∧ e.n = (k : Int) := fun ⟨j, hj, ej⟩ => by omega
        rw [i2 hno, if_pos h]
        exact List.perm_middle
      · rw [if_neg h]
        exact (i1 ⟨k, by omega, ek⟩).append_right _
    · intro hno
      rw [i2 (fun ⟨j, hj, ej⟩ => hno ⟨j, by omega, ej⟩), if_neg (fun h => hno ⟨n, by omega, h⟩)]
theorem queues_perm : ∀ {es : List Ent}, (∀ e ∈ es, 0 ≤ e.n ∧ e.n < 12) → List.Perm ((List.range 12).flatMap (qOf es)) es
  | [], _ => by
    have : (List.range 12).flatMap (qOf []) = [] := List.flatMap_eq_nil_iff.mpr fun i _ => rfl
    rw [this]
  | e :: r, h => by
    have hf : (qOf (e :: r)) = fun i => if e.n = ((i : Nat) : Int) then e :: qOf r i else qOf r i := by
      funext i
      unfold qOf
      rw [List.filter_cons]
      by_cases z : e.n = (i : Int)
      · simp only [decide_eq_true z, if_true, if_pos z]
      · simp only [decide_eq_false z, Bool.false_eq_true, if_false, if_neg z]
    obtain ⟨h0, h1⟩ := h e List.mem_cons_self
    rw [hf]
    exact ((flat_perm (e := e) (f := qOf r) 12).1 ⟨e.n.toNat, by omega, by omega⟩).trans ((queues_perm fun x hx => h x (List.mem_cons_of_mem _ hx)).cons e)
theorem paired_flat {H : Hp} (qv : Nat → List V) (ql : Nat → List Ent) : ∀ n : Nat, (∀ i : Nat, i < n → Paired (EntAt H) (qv i) (ql i)) → Paired (EntAt H) ((List.range n).flatMap qv) ((List.range n).flatMap ql)
  | 0, _ => .nil
  | n + 1, h => by
    have eF : ∀ {α : Type} (g : Nat → List α), (List.range (n + 1)).flatMap g = (List.range n).flatMap g ++ g n := fun g => by rw [List.range_succ, List.flatMap_append]; simp
    rw [eF, eF]
    exact paired_cat (paired_flat qv ql n fun i hi => h i (by omega)) (h n (Nat.lt_succ_self n))
where
  paired_cat {H : Hp} : ∀ {l l' : List V} {r r' : List Ent}, Paired (EntAt H) l r → Paired (EntAt H) l' r' → Paired (EntAt H) (l ++ l') (r ++ r')
  | _, _, _, _, .nil, h => h
  | _, _, _, _, .cons g t, h => .cons g (paired_cat t h)
theorem paired_ix {α β : Type} {F : α → β → Prop} : ∀ {l : List α} {r : List β}, l.length = r.length → (∀ (i : Nat) a b, l[i]? = some a → r[i]? = some b → F a b) → Paired F l r
  | [], [], _, _ => .nil
  | [], _ :: _, h, _ => by cases h
  | _ :: _, [], h, _ => by cases h
  | a :: l, b :: r, h, k => .cons (k 0 a b rfl rfl) (paired_ix (by simpa using h) fun i x y hx hy => k (i + 1) x y (by simpa using hx) (by simpa using hy))
theorem paired_mem {H : Hp} : ∀ {l : List V} {r : List Ent}, Paired (EntAt H) l r → ∀ q ∈ (l.zip r).map (fun z => (z.2.t, z.1)), ∃ e ∈ r, q.1 = e.t ∧ EntAt H q.2 e
  | _, _, .nil, q, h => by cases h
  | _, _, .cons (a := v) (b := e) g t, q, h => by
    rw [List.zip_cons_cons, List.map_cons] at h
    rcases List.mem_cons.mp h with z | z
    · rw [z]
      exact ⟨e, List.mem_cons_self, rfl, g⟩
    · obtain ⟨e', h1, h2⟩ := paired_mem t q z
      exact ⟨e', List.mem_cons_of_mem _ h1, h2⟩
theorem zip_parts {H : Hp} : ∀ {l : List V} {r : List Ent}, Paired (EntAt H) l r → ((l.zip r).map fun z => (z.2.t, z.1)).map (·.2) = l ∧ ((l.zip r).map fun z => (z.2.t, z.1)).map (·.1) = r.map (·.t)
  | _, _, .nil => ⟨rfl, rfl⟩
  | _, _, .cons g t => by
    obtain ⟨h1, h2⟩ := zip_parts t
    rw [List.zip_cons_cons, List.map_cons, List.map_cons, List.map_cons, h1, h2]
    exact ⟨rfl, rfl⟩
/-- sorted by turn the settings stand as they came -/
theorem sorted_ents {H : Hp} {tn : Int} {es : List Ent} {vs : List V} {qs : List (Int × V)} {L : List Ent} (w : WfE tn es) (hL : List.Perm L es) (r : Paired (EntAt H) vs L) (hp : List.Perm qs ((vs.zip L).map fun z => (z.2.t, z.1))) (ha : qs.Pairwise fun a b => a.1 < b.1) : Paired (EntAt H) (qs.map (·.2)) es := by
  have e1 : qs.map (·.1) = es.map (·.t) := by
    refine PySem.W.ksm_same ?_ (List.pairwise_map.mpr (ha.imp fun h => Int.le_of_lt h)) (List.pairwise_map.mpr (w.asc.imp fun h => Int.le_of_lt h))
    have := hp.map (·.1)
    rw [(zip_parts r).2] at this
    exact this.trans (hL.map _)
  have hl : qs.length = es.length := by have := congrArg List.length e1; simpa using this
  refine paired_ix (by rw [List.length_map, hl]) fun i v e hv he => ?_
  rw [List.getElem?_map] at hv
  obtain ⟨q, hq, rfl⟩ := Option.map_eq_some_iff.mp hv
  obtain ⟨e', he', ht, hE⟩ := paired_mem r q (hp.mem_iff.mp (List.mem_of_getElem? hq))
  have ht2 : q.1 = e.t := by
    have : (qs.map (·.1))[i]? = some q.1 := by rw [List.getElem?_map, hq]; rfl
    rw [e1, List.getElem?_map, he] at this
    exact (Option.some.inj this).symm
  have he2 : e' ∈ es := hL.mem_iff.mp he'
  have : e' = e := by
    obtain ⟨j, hj, ej⟩ := List.getElem_of_mem he2
    obtain ⟨hi, ei⟩ := List.getElem?_eq_some_iff.mp he
    have tt : es[j].t = es[i].t := by rw [ej, ei, ← ht, ht2]
    rcases Nat.lt_trichotomy j i with z | z | z
    · have := List.pairwise_iff_getElem.mp w.asc j i hj hi z; omega
    · subst z; rw [← ej, ← ei]
    · have := List.pairwise_iff_getElem.mp w.asc i j hi hj z; omega
  rw [← this]
  exact hE
theorem nodup_turns {tn : Int} {es L : List Ent} (w : WfE tn es) (hL : List.Perm L es) : (L.map (·.t)).Nodup := by
  refine (hL.map (·.t)).nodup_iff.mpr ?_
  exact List.pairwise_map.mpr (w.asc.imp fun h => Int.ne_of_lt h)
section
variable {P : Program} {w : World} {K : PySem.W.Frag} {mg : Str → Option Value} {base : Heap}
/-! ### tray_of -/
theorem ok_TrayOf {f fI C cKind aK : Addr} {fd fdI : FuncData} (F : Fun K "tray_of" "tray_of" sTrayOf f fd) (B : BT mg) (cT : TrCls K C) (M : Mk K C fI) (FI : Fun K "__init__" "Tray.__init__" sTI fI fdI) (bI : Binds K fdI ["self", "kind"] []) (mT : mg "Tray" = some (.ref C)) (mN : ∃ u, mg "NAMES" = some u ∧ RelV (.int 12) u)
    (mK : mg "KINDS" = some (.ref aK)) (hK : ∀ H : Hp, SqT K H aK [.str "row", .str "name", .str "none"]) (xc : XC K cKind) (mX : mg "NoKind" = some (.ref cKind)) {PT : Addr} : FnOk P w K mg base (CXE P w) 3 f fd ["kind"] (spTrayOf C PT cKind) := by
  have GI : FnOk P w K mg base CX0 1 fI fdI ["self", "kind"] (spTI C) := ok_TI FI B cT mN
  refine F.okX scTrayOf (fun vs H Q E h => ?_) (fun cdv A outer s H vs Q E hr hL hp h => ?_)
  · obtain ⟨v, T, rfl, _⟩ := h
    rfl
  · obtain ⟨v, T, rfl, ht, k1, k2⟩ := h
    refine ⟨_, pss_cons (ps_if (PW.pt (pw_or (pt_not (pt_val (pe_callB call_isi rfl B.isi boot_isinstance (pa_cons (pv 0) (pa_cons (pe_bltn (v := .ty "str") rfl B.str boot_str rfl) pa_nil)))))
        (pw_or1 (pt_cmpR op_notIn_seq (pv 0) (pe_glob (v := .ref aK) rfl mK rfl) rfl)))) (pss_one (ps_raise rfl hL xc rfl mX (pa_cons pe_str pa_nil))) pss_nil)
      (pss_one (ps_ret (pe_make M GI hr rfl mT bI .nil pass0 (pa_cons (pv 0) pa_nil)))), ?_⟩
    refine ⟨_, rfl, _, _, _, _, _, rfl, tyT ht, rfl, kitU ht (by decide), _, rfl, ?_⟩
    refine iteNB (fun z => ?_) (fun z => ?_)
    · refine iteT ⟨by decide, k2 fun y => ?_⟩
      have : ∃ x, v = .str x := by rcases y with y | y | y <;> exact ⟨_, y⟩
      rw [(isiStrT ht).mpr this] at z
      cases z
    · obtain ⟨x, rfl⟩ := (isiStrT ht).mp z
      refine ⟨_, rfl, aK, _, rfl, .inr (hK H), rfl, rfl, _, rfl, ?_⟩
      rw [if_pos rfl]
      have ei : inV (.str x) [.str "row", .str "name", .str "none"] = decide (V.str x = .str "row" ∨ V.str x = .str "name" ∨ V.str x = .str "none") := by
        unfold inV
        have g : ∀ y : Str, eqV (.str y) (.str x) = decide (V.str x = V.str y) := fun y => by
          simp only [eqV]
          by_cases q : x = y
          · subst q; simp
          · have : ¬ V.str x = V.str y := fun e => q (strE e)
            rw [decide_eq_false this]
            exact beq_eq_false_iff_ne.mpr fun e => q e.symm
        simp only [List.any_cons, List.any_nil, g, Bool.or_false]
        by_cases q1 : V.str x = .str "row" <;> by_cases q2 : V.str x = .str "name" <;> by_cases q3 : V.str x = .str "none" <;> simp [q1, q2, q3]
      rw [ei]
      refine iteNB (fun y => ?_) (fun y => ?_)
      · exact ⟨by decide, k2 (of_decide_eq_false y)⟩
      · refine ⟨_, rfl, fun o dx no ndx ne => ?_⟩
        refine ⟨o, dx, x, rfl, upd_same, fun H' q qr T1 kp fr => ⟨rfl, k1 (of_decide_eq_true y) x H' o q qr rfl T1 (fun b u _ e => kp b u (ne_of_none e no) ?_) fun b hb => ?_⟩⟩
        · rw [upd_ne (ne_of_none e no), upd_ne (ne_of_none e ndx)]; exact e
        · rcases List.mem_cons.mp hb with z | z
          · rw [z]; exact no
          · have := fr b z
            have nbo : b ≠ o := fun e => by rw [e, upd_same] at this; cases this
            rw [upd_ne nbo] at this
            have nbd : b ≠ dx := fun e => by rw [e, upd_same] at this; cases this
            rw [upd_ne nbd] at this
            exact this
end
end TL


namespace TL
open PySem PySem.Spec PyProof.Rows L2 L3
theorem flat_len {α : Type} {qv : Nat → List α} {m : Nat} : ∀ n : Nat, (∀ i, i < n → (qv i).length ≤ m) → ((List.range n).flatMap qv).length ≤ n * m
  | 0, _ => by simp
  | n + 1, h => by
    rw [List.range_succ, List.flatMap_append, List.length_append]
    have h1 := flat_len n fun i hi => h i (by omega)
    have h2 := h n (Nat.lt_succ_self n)
    simp only [List.flatMap_cons, List.flatMap_nil, List.append_nil]
    rw [Nat.succ_mul]
    omega
theorem paired_get' {α β : Type} {F : α → β → Prop} : ∀ {l : List α} {r : List β} {i : Nat} {x : α}, Paired F l r → l[i]? = some x → ∃ y, r[i]? = some y ∧ F x y
  | _, _, _, _, .nil, e => by simp at e
  | _, _, 0, _, .cons h _, e => by simp at e; subst e; exact ⟨_, rfl, h⟩
  | _, _, i + 1, x, .cons _ t, e => by
    obtain ⟨y, h1, h2⟩ := paired_get' (i := i) t (by simpa using e)
    exact ⟨y, by simpa using h1, h2⟩
theorem cut2 (x y z : V) : cutV [x, y, z] none (some 2) = [x, y] := rfl
section
variable {P : Program} {w : World} {K : PySem.W.Frag} {mg : Str → Option Value} {base : Heap}
def PairAt (H : Hp) (v : V) (e : Ent) : Prop := ∃ p, v = .ref p ∧ H p = some (.tup [.int e.n, .int e.num])
def spListed (C : Addr) : Sp := fun vs H Q _ => ∃ a kd tn es q qr, vs = [.ref a] ∧ TrayAt H a C kd tn es q qr ∧ es.length < 64 ∧
  ∀ H' l us, Same H H' → H l = none → H' l = some (.lst us) → Paired (PairAt H') us es → Q (.ref l) H'
theorem scTListed : FnScope ["self", "waiting", "queue"] ["self"] (defScope sTListed) := ⟨rfl, rfl, rfl, by decide +kernel, rfl, by decide +kernel, by decide +kernel⟩
theorem nd_ts : (["turn", "setting"] : List Str).Nodup := by decide +kernel
theorem ok_TListed {f C : Addr} {fd : FuncData} (F : Fun K "listed" "Tray.listed" sTListed f fd) (B : BT mg) (cT : TrCls K C) : FnOk P w K mg base CX0 1 f fd ["self"] (spListed C) := by
  refine F.ok scTListed (fun vs H Q E h => ?_) (fun cdv A outer s H vs Q E hr h => ?_)
  · obtain ⟨a, kd, tn, es, q, qr, rfl, _⟩ := h
    rfl
  · obtain ⟨a, kd, tn, es, q, qr, rfl, T, hz, k⟩ := h
    refine ⟨_, pss_cons (ps_set (i := 1) scTListed.nd rfl (Or.inl rfl) (pe_lst pa_nil))
      (pss_cons (ps_for PassesOwn.never rfl (pi_list (pe_fld (pv 0) rfl)) (pg_name (i := 2) scTListed.nd rfl (Or.inl rfl)) (pss_one (ps_expr (pe_bm PySem.F.plainAttrs_list PySem.F.slot_list_extend PySem.F.type_list_extend mt_extend (pv 1) (pa_cons (pv 2) pa_nil)))))
      (pss_one (ps_ret (pe_comp (N := ["turn", "setting"]) (idx := []) rfl (ScC.of (by kernel_rfl)) (gkeep_pair (Nat.zero_le _) (Nat.zero_le _)) (pi_list (pe_callB call_sortedT rfl B.sorted boot_sorted (pa_cons (pv 1) pa_nil)))
        (fun _ _ _ _ => pg_tup rfl (pgs_cons (pg_name (i := 0) nd_ts rfl (Or.inl rfl) (.inr rfl)) (pgs_cons (pg_name (i := 1) nd_ts rfl (Or.inl rfl) (.inr rfl)) pgs_nil)))
        (fun _ _ _ _ => pts_nil) (fun _ _ _ _ => pe_slice (slt_K K) (pv 1) po_none (po_some pe_int)))))), ?_⟩
    obtain ⟨dx, fs, ea, e1, e2, e3, em, el⟩ := id T.obj
    have hl := T.len
    obtain ⟨qv, hqv⟩ : ∃ qv : Nat → List V, ∀ i (hi : i < qr.length), H qr[i] = some (.lst (qv i)) ∧ Paired (EntAt H) (qv i) (qOf es i) := by
      refine ⟨fun i => match H (qr.getD i 0) with | some (.lst vs) => vs | _ => [], fun i hi => ?_⟩
      obtain ⟨vs, h1, h2⟩ := T.que i _ (List.getElem?_eq_getElem hi)
      have eg : qr.getD i 0 = qr[i] := by simp [hi]
      dsimp only
      rw [eg, h1]
      exact ⟨rfl, h2⟩
    refine ⟨by decide, fun lw nw => ?_⟩
    have s0 : Same H (upd H lw (.lst [])) := same_new (Same.refl _) nw
    have naw : a ≠ lw := ne_of_none ea nw
    have nqw : q ≠ lw := ne_of_none T.qs nw
    refine ⟨_, rfl, a, C, dx, fs, _, rfl, by rw [upd_ne naw]; exact ea, cT.cl, cT.queues, e3, q, rfl, ⟨_, SqL.of (by rw [upd_ne nqw]; exact T.qs)⟩, ?_⟩
    refine for_list (xs := qr.map V.ref) (fun i σ H' => ∃ qx, σ = [some (.ref a), some (.ref lw), qx] ∧ Same H H' ∧ H' lw = some (.lst ((List.range i).flatMap qv))) ⟨none, rfl, s0, by rw [upd_same]; rfl⟩ ?_ ?_ ?_
    · rintro i σ H' _ ⟨qx, rfl, sm, _⟩
      exact SqL.of (sm _ _ T.qs)
    · rintro i x σ H' hx ⟨qx, rfl, sm, hw⟩
      rw [List.getElem?_map] at hx
      obtain ⟨b, hb, rfl⟩ := Option.map_eq_some_iff.mp hx
      obtain ⟨hi, eb⟩ := List.getElem?_eq_some_iff.mp hb
      obtain ⟨h1, h2⟩ := hqv i hi
      rw [eb] at h1
      have lq := Paired.length h2
      have lq2 := qOf_len es i
      have fl := flat_len (qv := qv) (m := 64) i fun j hj => by
        have := Paired.length (hqv j (by omega)).2
        have := qOf_len es j
        omega
      refine ⟨_, rfl, .inl ⟨rfl, _, SqL.of hw⟩, _, rfl, lw, b, _, _, rfl, rfl, hw, sm _ _ h1, ?_, ⟨_, rfl, fun c o e => ?_, ?_⟩⟩
      · rw [sizeLine_eq]
        omega
      · rw [upd_ne (ne_of_none e nw)]; exact sm _ _ e
      · rw [upd_same, List.range_succ, List.flatMap_append]
        simp
    · rintro σ H' ⟨qx, rfl, sm, hw⟩
      rw [List.length_map, hl] at hw
      have rp : Paired (EntAt H) ((List.range 12).flatMap qv) ((List.range 12).flatMap (qOf es)) := paired_flat qv (qOf es) 12 fun i hi => (hqv i (by omega)).2
      have hL := queues_perm T.wf.nm
      have ll : ((List.range 12).flatMap (qOf es)).length = es.length := hL.length_eq
      have lr := Paired.length rp
      obtain ⟨z1, z2⟩ := zip_parts rp
      have rp' : Paired (EntAt H') ((List.range 12).flatMap qv) ((List.range 12).flatMap (qOf es)) := pairedI (fun _ _ y => y.keep (F := []) fun b xs e => sm _ _ e) rp
      refine ⟨_, rfl, lw, (((List.range 12).flatMap qv).zip ((List.range 12).flatMap (qOf es))).map (fun z => (z.2.t, z.1)), rfl, SqL.of (by rw [z1]; exact hw), by rw [List.length_map, List.length_zip]; omega, fun y hy => ?_, by rw [z2]; exact nodup_turns T.wf hL, fun ls qs hn hp ha => ?_⟩
      · obtain ⟨e, _, et, p, st, ep, h1, h2⟩ := paired_mem rp' y hy
        exact ⟨p, [.ref st], ep, SqT.of (by rw [et]; exact h1)⟩
      · have rs := sorted_ents T.wf hL rp' hp ha
        have s1 : Same H' (upd H' ls (.lst (qs.map (·.2)))) := same_new (Same.refl _) hn
        generalize hH1 : upd H' ls (.lst (qs.map (·.2))) = H1 at s1
        have hls : H1 ls = some (.lst (qs.map (·.2))) := by rw [← hH1]; exact upd_same
        have lqs : (qs.map (·.2)).length = es.length := Paired.length rs
        refine ⟨ls, rfl, ⟨_, SqL.of hls⟩, ?_⟩
        generalize hW : qs.map (·.2) = us at hls rs lqs
        refine compW_of (n := es.length) (fun i ys H2 => Same H1 H2 ∧ Paired (PairAt H2) ys (es.take i)) (by rw [sizeLine_eq]; omega) ⟨Same.refl _, by rw [List.take_zero]; exact .nil⟩ ?_ ?_ ?_ ?_ ?_
        · rintro i ys H2 ⟨_, r2⟩
          rw [Paired.length r2, List.length_take]
          omega
        · rintro i ys H2 hi ⟨s2, _⟩
          exact ⟨us, us[i]'(by omega), SqL.of (s2 _ _ hls), List.getElem?_eq_getElem (by omega)⟩
        · rintro ys H2 ⟨s2, _⟩
          exact ⟨us, SqL.of (s2 _ _ hls), by omega⟩
        · rintro i ys H2 hi ⟨s2, r2⟩ y H3 ⟨eH, hy⟩
          subst eH
          have hy1 := hy us (SqL.of (s2 _ _ hls))
          obtain ⟨e, he, p, st, rfl, h1, h2⟩ := paired_get' rs hy1
          have g1 := s2 _ _ (s1 _ _ h1)
          have g2 := s2 _ _ (s1 _ _ h2)
          refine ⟨p, _, rfl, SqT.of g1, rfl, _, _, rfl, _, _, rfl, rfl, ?_⟩
          dsimp only [tYes]
          rw [if_pos rfl]
          refine ⟨_, rfl, 2, rfl, st, _, rfl, SqT.of g2, by show ¬ (HT.sIx 3 0 none = 0 ∧ HT.sIx 3 3 (some 2) = 3); decide, fun r hr0 => ?_⟩
          have s3 : Same H3 (upd H3 r (.tup (cutV [.int e.n, .int e.num, .int e.d] none (some 2)))) := same_new (Same.refl _) hr0
          refine ⟨s2.trans s3, ?_⟩
          rw [List.take_add_one, he]
          exact paired_app (pairedI (fun _ _ ⟨p, q1, q2⟩ => ⟨p, q1, s3 _ _ q2⟩) r2) ⟨r, rfl, by rw [upd_same, cut2]⟩
        · rintro ys H2 ⟨s2, r2⟩
          rw [List.take_length] at r2
          have ly := Paired.length r2
          refine ⟨by rw [sizeLine_eq]; omega, fun lr nr => ?_⟩
          have s3 : Same H2 (upd H2 lr (.lst ys)) := same_new (Same.refl _) nr
          refine k _ lr ys (sm.trans (s1.trans (s2.trans s3))) ?_ upd_same (pairedI (fun _ _ ⟨p, q1, q2⟩ => ⟨p, q1, s3 _ _ q2⟩) r2)
          cases e : H lr with
          | none => rfl
          | some o => rw [s2 _ _ (s1 _ _ (sm _ _ e))] at nr; cases nr
end
end TL


namespace TL
open PySem PySem.Spec PyProof.Rows PySem.SeqAt L2 L3
abbrev sCellAt : Stmt := top 13
abbrev sMixed : Stmt := top 14
def cellM (ns : List Int) (k : Int) : Int := ns.getD k.toNat 0
def mixN (c k : Int) : Int := (c % 2147483647 + 7919 * k + 1) * 48271 % 2147483647
def mixedM (c k : Int) : Int := mixN c k * (mixN c k / 1009 + 69621) % 2147483647
theorem mixN_b (c k : Int) : 0 ≤ mixN c k ∧ mixN c k < 2147483647 := ⟨Int.emod_nonneg _ (by decide), Int.emod_lt_of_pos _ (by decide)⟩
theorem mixedM_b (c k : Int) : 0 ≤ mixedM c k ∧ mixedM c k < 2147483647 := ⟨Int.emod_nonneg _ (by decide), Int.emod_lt_of_pos _ (by decide)⟩
section
variable {P : Program} {w : World} {K : PySem.W.Frag} {mg : Str → Option Value} {base : Heap}
/-! ### the law's own -/
def spCell (K : PySem.W.Frag) : Sp := fun vs H Q _ => ∃ a ns k, vs = [.ref a, .int k] ∧ SqL K H a (ns.map V.int) ∧ 0 ≤ k ∧ Q (.int (cellM ns k)) H
theorem scCell : FnScope ["_law_script", "_law_k"] ["_law_script", "_law_k"] (defScope sCellAt) := ⟨rfl, rfl, rfl, by decide +kernel, rfl, by decide +kernel, by decide +kernel⟩
theorem ok_cell {f : Addr} {fd : FuncData} (F : Fun K "_law_cell_at" "_law_cell_at" sCellAt f fd) (hln : mg "len" = none) : FnOk P w K mg base CX0 1 f fd ["_law_script", "_law_k"] (spCell K) := by
  refine F.ok scCell (fun vs H Q E h => ?_) (fun cdv A outer s H vs Q E hr h => ?_)
  · obtain ⟨a, ns, k, rfl, _⟩ := h
    rfl
  · obtain ⟨a, ns, j, rfl, ha, hj, k⟩ := h
    refine ⟨_, pss_cons (ps_if (pt_cmpR op_lt (pv 1) (pe_callB call_len_seq rfl hln PySem.boot_len (pa_cons (pv 0) pa_nil)) (nomark _)) (pss_one (ps_ret (pe_ix ix_list (pv 0) (pv 1) (fun _ _ => rfl)))) pss_nil) (pss_one (ps_ret pe_int)), ?_⟩
    refine ⟨_, rfl, _, rfl, a, _, rfl, .inl ha, _, _, rfl, rfl, _, rfl, iteD (fun h1 => ?_) (fun h1 => ?_)⟩
    · rw [List.length_map] at h1
      have hlt : j.toNat < ns.length := by omega
      refine ⟨_, rfl, _, rfl, a, _, j, .int (cellM ns j), rfl, rfl, ha, ?_, k⟩
      have e : j = (j.toNat : Int) := by omega
      rw [e]
      refine atI_nat ?_
      rw [List.getElem?_map, List.getElem?_eq_getElem hlt]
      unfold cellM
      rw [Int.toNat_natCast, List.getD_eq_getElem?_getD, List.getElem?_eq_getElem hlt]
      rfl
    · rw [List.length_map] at h1
      have e : cellM ns j = 0 := by
        unfold cellM
        rw [List.getD_eq_getElem?_getD, List.getElem?_eq_none (by omega)]
        rfl
      rw [e] at k
      exact k
def spMix : Sp := fun vs H Q _ => ∃ c j, vs = [.int c, .int j] ∧ Q (.int (mixedM c j)) H
theorem scMix : FnScope ["_law_cell", "_law_k", "_law_number"] ["_law_cell", "_law_k"] (defScope sMixed) := ⟨rfl, rfl, rfl, by decide +kernel, rfl, by decide +kernel, by decide +kernel⟩
theorem ok_mix {f : Addr} {fd : FuncData} (F : Fun K "_law_mixed" "_law_mixed" sMixed f fd) : FnOk P w K mg base CX0 1 f fd ["_law_cell", "_law_k"] spMix := by
  refine F.ok scMix (fun vs H Q E h => ?_) (fun cdv A outer s H vs Q E hr h => ?_)
  · obtain ⟨a, j, rfl, _⟩ := h
    rfl
  · obtain ⟨c, j, rfl, k⟩ := h
    refine ⟨_, pss_cons (ps_set (i := 2) scMix.nd rfl (Or.inl rfl) (pe_op op_mod (pe_op op_mul (pe_op op_add (pe_op op_add (pe_op op_mod (pv 0) pe_int) (pe_op op_mul pe_int (pv 1))) pe_int) pe_int) pe_int))
      (pss_one (ps_ret (pe_op op_mod (pe_op op_mul (pv 2) (pe_op op_add (pe_op op_fdiv (pv 2) pe_int) pe_int)) pe_int))), ?_⟩
    have hb := mixN_b c j
    refine ⟨_, rfl, _, _, rfl, rfl, (by show (0 : Int) < 2147483647; decide), _, rfl, _, _, rfl, rfl, .inl ⟨by decide, by decide⟩, _, _, rfl, rfl, _, _, rfl, rfl, _, _, rfl, rfl, .inr ⟨by decide, by decide⟩, _, _, rfl, rfl, (by show (0 : Int) < 2147483647; decide), ?_⟩
    refine ⟨_, rfl, _, rfl, _, _, rfl, rfl, ⟨by decide, by decide⟩, _, _, rfl, rfl, _, _, rfl, rfl, .inl ⟨?_, ?_⟩, _, _, rfl, rfl, (by show (0 : Int) < 2147483647; decide), k⟩
    · show -(2 ^ 64) < mixN c j
      omega
    · show mixN c j < 2 ^ 64
      omega
end
end TL


namespace TL
open PySem PySem.Spec PyProof.Rows PySem.SeqAt L2 L3
abbrev sNoKind : Stmt := top 15
abbrev sTaken : Stmt := top 16
abbrev sFirst : Stmt := top 17
abbrev sTold : Stmt := top 18
abbrev sLaw : Stmt := top 19
/-- a class of errors under TrayError (at cE) -/
structure XFacts (K : PySem.W.Frag) (c cE : Addr) : Prop where
  xc : XC K c
  self : PySem.W.kitCls K (.ref c) (.ref c) = some true
  base : PySem.W.kitCls K (.ref c) (.type "BaseException") = some true
  te : PySem.W.kitOne K (.ref c) (.ref cE) = some true
  ve : PySem.W.kitOne K (.ref c) (.type "ValueError") = some true
theorem boot_VE : bootBuiltins "ValueError" = some (.type "ValueError") := by decide +kernel
/-- what the trays' text is in the heap -/
structure TrT (K : PySem.W.Frag) (mg : Str → Option Value) (base : Heap) where
  (fW fI fA fLt fF fTk fE fLs fO C PT c cE cM cK aK : Addr)
  (fdW fdI fdA fdLt fdF fdTk fdE fdLs fdO : FuncData)
structure TrOk {K : PySem.W.Frag} {mg : Str → Option Value} {base : Heap} (t : TrT K mg base) : Prop where
  B : BT mg
  cT : TrCls K t.C
  hC : PySem.W.CodeHd base t.c t.PT
  hB : BmAt mg base
  FW : Fun K "is_whole" "is_whole" sWholeT t.fW t.fdW
  bW : Binds K t.fdW ["thing"] []
  mW : mg "is_whole" = some (.ref t.fW)
  FI : Fun K "__init__" "Tray.__init__" sTI t.fI t.fdI
  bI : Binds K t.fdI ["self", "kind"] []
  M : Mk K t.C t.fI
  mT : mg "Tray" = some (.ref t.C)
  mN : ∃ u, mg "NAMES" = some u ∧ RelV (.int 12) u
  FA : Fun K "add" "Tray.add" sTAdd t.fA t.fdA
  bA : Binds K t.fdA ["self", "name", "number", "deed"] []
  mA : Meth K t.C "add" t.fA
  FLt : Fun K "latest" "Tray.latest" sTLatest t.fLt t.fdLt
  bLt : Binds K t.fdLt ["self", "name"] []
  mLt : Meth K t.C "latest" t.fLt
  FF : FunC K "fronts" "Tray.fronts" sTFronts t.fF t.fdF t.c
  bF : Binds K t.fdF ["self"] []
  mF : Meth K t.C "fronts" t.fF
  FTk : Fun K "take" "Tray.take" sTTake t.fTk t.fdTk
  bTk : Binds K t.fdTk ["self", "name"] []
  mTk : Meth K t.C "take" t.fTk
  FE : Fun K "is_empty" "Tray.is_empty" sTEmpty t.fE t.fdE
  bE : Binds K t.fdE ["self"] []
  mE : Meth K t.C "is_empty" t.fE
  FLs : Fun K "listed" "Tray.listed" sTListed t.fLs t.fdLs
  bLs : Binds K t.fdLs ["self"] []
  mLs : Meth K t.C "listed" t.fLs
  FO : Fun K "tray_of" "tray_of" sTrayOf t.fO t.fdO
  bO : Binds K t.fdO ["kind"] []
  mO : mg "tray_of" = some (.ref t.fO)
  mK : mg "KINDS" = some (.ref t.aK)
  hK : ∀ H : Hp, SqT K H t.aK [.str "row", .str "name", .str "none"]
  xM : XFacts K t.cM t.cE
  xK : XFacts K t.cK t.cE
  mgM : mg "NoMove" = some (.ref t.cM)
  mgK : mg "NoKind" = some (.ref t.cK)
  mgE : mg "TrayError" = some (.ref t.cE)
  VE : mg "ValueError" = none
section
variable {P : Program} {w : World} {K : PySem.W.Frag} {mg : Str → Option Value} {base : Heap} {t : TrT K mg base}
def NoK (v : V) : Prop := ¬ (v = .str "row" ∨ v = .str "name" ∨ v = .str "none")
def spNoKind : Sp := fun vs H Q _ => ∃ v T, vs = [v] ∧ tyName H v = some T ∧ NoK v ∧ ∀ H', Same H H' → Q (.bl true) H'
theorem scNoKind : FnScope ["_law_word", "_law_good", "e"] ["_law_word"] (defScope sNoKind) := ⟨rfl, rfl, rfl, by decide +kernel, rfl, by decide +kernel, by decide +kernel⟩
theorem ok_NoKind {f : Addr} {fd : FuncData} (F : Fun K "_law_no_kind" "_law_no_kind" sNoKind f fd) (T : TrOk t) : FnOk P w K mg base CX0 4 f fd ["_law_word"] spNoKind := by
  have GO : FnOk P w K mg base (CXE P w) 3 t.fO t.fdO ["kind"] (spTrayOf t.C t.PT t.cK) := ok_TrayOf T.FO T.B T.cT T.M T.FI T.bI T.mT T.mN T.mK T.hK T.xK.xc T.mgK
  refine F.ok scNoKind (fun vs H Q E h => ?_) (fun cdv A outer s H vs Q E hr h => ?_)
  · obtain ⟨v, T, rfl, _⟩ := h
    rfl
  · obtain ⟨v, Ty, rfl, ht, hn, k⟩ := h
    refine ⟨_, pss_cons (ps_set (i := 1) scNoKind.nd rfl (Or.inl rfl) pe_bl)
      (pss_cons (ps_tryAs (i := 2) rfl rfl rfl scNoKind.nd rfl rfl rfl T.mgK T.xK.base (fun W pn E hL hp => pss_one (ps_expr (pe_callX GO hr hL rfl T.mO T.FO.kp T.bO .nil (pa_cons (pv 0) pa_nil))))
        (fun ea pn => pss_one (ps_set (i := 1) scNoKind.nd rfl (Or.inl rfl) (pe_and (pe_callB (isiX_K K) rfl T.B.isi boot_isinstance (pa_cons (pv 2) (pa_cons (pe_glob (v := .ref t.cE) rfl T.mgE rfl) pa_nil)))
          (pe_one (pe_callB (isiX_K K) rfl T.B.isi boot_isinstance (pa_cons (pv 2) (pa_cons (pe_bltn (v := .ty "ValueError") rfl T.VE boot_VE rfl) pa_nil))))))))
      (pss_one (ps_ret (pv 1)))), ?_⟩
    refine ⟨_, rfl, v, Ty, rfl, ht, fun z => absurd z hn, fun _ => ⟨T.xK.self, fun ea hea => ?_⟩⟩
    refine ⟨_, rfl, ea, _, none, .ref t.cE, _, rfl, upd_same, rfl, T.xK.te, _, rfl, iteT ?_⟩
    refine ⟨_, rfl, ea, _, none, .ty "ValueError", _, rfl, upd_same, rfl, T.xK.ve, ?_⟩
    exact ⟨_, rfl, k _ (same_new (Same.refl _) hea)⟩
/-! ### _law_taken -/
def spTaken (t : TrT K mg base) : Sp := fun vs H Q _ => ∃ a n kd tn es q qr, vs = [.ref a, .int n] ∧ TrayAt H a t.C kd tn es q qr ∧ LamAt t.PT LP LQ H ∧
  (n ∈ frontsM kd es → ∀ H' e st, (qOf es n.toNat).head? = some e → TrayAt H' a t.C kd tn (dropM es n) q qr → KeepF (a :: q :: qr) H H' → LamAt t.PT LP LQ H' → H' st = some (.tup [.int e.n, .int e.num, .int e.d]) → Q (.ref st) H') ∧
  (n ∉ frontsM kd es → ∀ H' l, KeepF [] H H' → LamAt t.PT LP LQ H' → H' l = some (.lst [.bl true, .bl true]) → Q (.ref l) H')
theorem scTaken : FnScope ["_law_tray", "_law_name", "_law_row", "e"] ["_law_tray", "_law_name"] (defScope sTaken) := ⟨rfl, rfl, rfl, by decide +kernel, rfl, by decide +kernel, by decide +kernel⟩
theorem ok_Taken {f : Addr} {fd : FuncData} (F : Fun K "_law_taken" "_law_taken" sTaken f fd) (T : TrOk t) : FnOk P w K mg base CX0 4 f fd ["_law_tray", "_law_name"] (spTaken t) := by
  have GT : FnOk P w K mg base (CXE P w) 3 t.fTk t.fdTk ["self", "name"] (spTake t.C t.PT t.cM) := ok_TTake T.FTk T.B T.cT T.hC T.hB T.FW T.bW T.mW T.FF T.bF T.mF T.xM.xc T.mgM
  refine F.ok scTaken (fun vs H Q E h => ?_) (fun cdv A outer s H vs Q E hr h => ?_)
  · obtain ⟨a, n, kd, tn, es, q, qr, rfl, _⟩ := h
    rfl
  · obtain ⟨a, n, kd, tn, es, q, qr, rfl, Ta, hlam, k1, k2⟩ := h
    refine ⟨_, pss_cons (ps_set (i := 2) scTaken.nd rfl (Or.inl rfl) pe_non)
      (pss_cons (ps_tryAs (i := 3) rfl rfl rfl scTaken.nd rfl rfl rfl T.mgM T.xM.base (fun W pn E hL hp => pss_one (ps_set (i := 2) scTaken.nd rfl (Or.inl rfl) (pe_methX (pv 0) T.cT.cl T.mTk GT hr T.bTk .nil hL (pa_cons (pv 1) pa_nil))))
        (fun ea pn => pss_one (ps_set (i := 2) scTaken.nd rfl (Or.inl rfl) (pe_lst (pa_cons (pe_callB (isiX_K K) rfl T.B.isi boot_isinstance (pa_cons (pv 3) (pa_cons (pe_glob (v := .ref t.cE) rfl T.mgE rfl) pa_nil)))
          (pa_cons (pe_callB (isiX_K K) rfl T.B.isi boot_isinstance (pa_cons (pv 3) (pa_cons (pe_bltn (v := .ty "ValueError") rfl T.VE boot_VE rfl) pa_nil))) pa_nil))))))
      (pss_one (ps_ret (pv 2)))), ?_⟩
    obtain ⟨dx, fs, ea0, e1, e2, e3, em, el⟩ := id Ta.obj
    refine ⟨_, rfl, a, dx, fs, rfl, ea0, em "take" (by decide +kernel), _, rfl, a, n, kd, tn, es, q, qr, rfl, Ta, hlam, fun hin H' e st h1 h2 h3 h4 h5 => ⟨_, rfl, k1 hin H' e st h1 h2 h3 h4 h5⟩, fun hin H' kp lam' => ⟨T.xM.self, fun ea hea => ?_⟩⟩
    refine ⟨_, rfl, ea, _, none, .ref t.cE, _, rfl, upd_same, rfl, T.xM.te, _, rfl, ea, _, none, .ty "ValueError", _, rfl, upd_same, rfl, T.xM.ve, by show 2 ≤ sizeLine; decide, fun l hn => ?_⟩
    have s1 : Same H' (upd H' ea (exo ea (.ref t.cM) none)) := same_new (Same.refl _) hea
    exact ⟨_, rfl, k2 hin _ l (kp.trans (KeepF.of (same_new s1 hn))) (lamAt_same lam' (same_new s1 hn)) upd_same⟩
/-! ### _law_first -/
def RowAt (H : Hp) (v : V) (e : Ent) : Prop := ∃ p, v = .ref p ∧ H p = some (.tup [.int e.n, .int e.num, .int e.d])
def RowsAt (H : Hp) (r : Addr) (es : List Ent) : Prop := ∃ us, H r = some (.lst us) ∧ Paired (RowAt H) us es
def firstV (es : List Ent) (n : Int) : V := match es.findIdx? (fun e => decide (e.n = n)) with | some i => .int (i : Nat) | none => .non
def spFirst : Sp := fun vs H Q _ => ∃ r n es, vs = [.ref r, .int n] ∧ RowsAt H r es ∧ es.length ≤ 1000 ∧ Q (firstV es n) H
theorem scFirst : FnScope ["_law_rows", "_law_name", "_law_k"] ["_law_rows", "_law_name"] (defScope sFirst) := ⟨rfl, rfl, rfl, by decide +kernel, rfl, by decide +kernel, by decide +kernel⟩
theorem ok_First {f : Addr} {fd : FuncData} (F : Fun K "_law_first" "_law_first" sFirst f fd) (T : TrOk t) : FnOk P w K mg base CX0 1 f fd ["_law_rows", "_law_name"] spFirst := by
  refine F.ok scFirst (fun vs H Q E h => ?_) (fun cdv A outer s H vs Q E hr h => ?_)
  · obtain ⟨r, n, es, rfl, _⟩ := h
    rfl
  · obtain ⟨r, n, es, rfl, ⟨us, hr0, rp⟩, hz, k⟩ := h
    refine ⟨_, pss_cons (ps_for PassesOwn.never rfl (pi_range1 rfl T.B.range (pa_cons (pe_callB call_len_seq rfl T.B.len PySem.boot_len (pa_cons (pv 0) pa_nil)) pa_nil)) (pg_name (i := 2) scFirst.nd rfl (Or.inl rfl))
        (pss_one (ps_if (pt_cmpR op_eq (pe_ix ix_tup (pe_ix ix_list (pv 0) (pv 2) (fun _ _ => rfl)) pe_int (fun _ _ => rfl)) (pv 1) (nomark _)) (pss_one (ps_ret (pv 2))) pss_nil)))
      (pss_one (ps_ret pe_non)), ?_⟩
    have lp := Paired.length rp
    refine ⟨_, rfl, r, us, rfl, .inl (SqL.of hr0), (us.length : Int), rfl, by omega, by omega, ?_⟩
    rw [Int.toNat_natCast]
    refine for_range (n := us.length) (fun i σ H' => H' = H ∧ (∃ kx, σ = [some (.ref r), some (.int n), kx]) ∧ ∀ j e, j < i → es[j]? = some e → e.n ≠ n) ⟨rfl, ⟨none, rfl⟩, fun j e hj => absurd hj (Nat.not_lt_zero _)⟩ ?_ ?_
    · rintro i σ H' hi ⟨rfl, ⟨kx, rfl⟩, hno⟩
      obtain ⟨e, he, p, hv, hp⟩ := paired_get' rp (List.getElem?_eq_getElem hi)
      refine ⟨_, rfl, _, rfl, r, us, _, .ref p, rfl, rfl, SqL.of hr0, ?_, p, _, _, .int e.n, rfl, rfl, SqT.of hp, atI_nat (j := 0) rfl, _, rfl, rfl, _, rfl, iteD (fun z => ?_) (fun z => ?_)⟩
      · rw [Int.zero_add]
        exact atI_nat (by rw [List.getElem?_eq_getElem hi, hv])
      · have hn : e.n = n := by injection z
        have ef : firstV es n = .int (0 + (i : Int)) := by
          unfold firstV
          have : es.findIdx? (fun e => decide (e.n = n)) = some i := by
            rw [List.findIdx?_eq_some_iff_getElem]
            obtain ⟨h1, h2⟩ := List.getElem?_eq_some_iff.mp he
            refine ⟨h1, by rw [h2]; simpa using hn, fun j hj => ?_⟩
            have := hno j _ hj (List.getElem?_eq_getElem (by omega))
            simpa using this
          rw [this, Int.zero_add]
        rw [ef] at k
        exact ⟨_, rfl, k⟩
      · refine ⟨rfl, ⟨_, rfl⟩, fun j e' hj he' => ?_⟩
        by_cases zj : j = i
        · subst zj
          rw [he] at he'; cases he'
          exact fun y => z (by rw [y])
        · exact hno j e' (by omega) he'
    · rintro σ H' ⟨rfl, _, hno⟩
      have ef : firstV es n = .non := by
        unfold firstV
        have : es.findIdx? (fun e => decide (e.n = n)) = none := by
          rw [List.findIdx?_eq_none_iff]
          intro e he
          obtain ⟨j, hj, ej⟩ := List.getElem_of_mem he
          have := hno j e (by omega) (by rw [← ej]; exact List.getElem?_eq_getElem hj)
          simpa using this
        rw [this]
      rw [ef] at k
      exact k
end
end TL


namespace TL
open PySem PySem.Spec PyProof.Rows PySem.SeqAt L2 L3
/-- Python's own names that the law uses besides -/
structure BL (mg : Str → Option Value) : Prop where
  set : mg "set" = none
  max : mg "max" = none
theorem boot_set' : bootBuiltins "set" = some (.type "set") := by decide +kernel
theorem sorted_eq : ∀ {xs ys : List Int}, xs.Pairwise (· < ·) → ys.Pairwise (· < ·) → (∀ n, n ∈ xs ↔ n ∈ ys) → xs = ys := fun {xs ys} hx hy hm => by
  refine PySem.W.ksm_same ?_ (hx.imp fun h => Int.le_of_lt h) (hy.imp fun h => Int.le_of_lt h)
  exact (List.perm_ext_iff_of_nodup (hx.imp fun h => Int.ne_of_lt h) (hy.imp fun h => Int.ne_of_lt h)).mpr hm
theorem waitM_asc (es : List Ent) : (waitM es).Pairwise (· < ·) := by
  unfold waitM
  refine List.pairwise_map.mpr (List.Pairwise.imp (fun h => by omega) ((List.pairwise_lt_range (n := 12)).sublist List.filter_sublist))
theorem qOf_mem {es : List Ent} {i : Nat} : qOf es i ≠ [] ↔ ∃ e ∈ es, e.n = (i : Int) := by
  unfold qOf
  rw [Ne, List.filter_eq_nil_iff]
  constructor
  · intro h
    refine Classical.byContradiction fun z => h fun e he => ?_
    have : ¬ e.n = (i : Int) := fun y => z ⟨e, he, y⟩
    simpa using this
  · rintro ⟨e, he, hn⟩ h
    exact h e he (by simpa using hn)
theorem wait_names {tn : Int} {es : List Ent} (w : WfE tn es) (n : Int) : n ∈ waitM es ↔ n ∈ es.map (·.n) := by
  rw [mem_waitM, List.mem_map]
  constructor
  · rintro ⟨i, _, rfl, h⟩
    obtain ⟨e, he, hn⟩ := qOf_mem.mp h
    exact ⟨e, he, hn⟩
  · rintro ⟨e, he, rfl⟩
    obtain ⟨h0, h1⟩ := w.nm e he
    exact ⟨e.n.toNat, by omega, by omega, qOf_mem.mpr ⟨e, he, by omega⟩⟩
theorem names_sorted {tn : Int} {es : List Ent} {zs : List Int} (w : WfE tn es) (hp : List.Perm zs (onceL (es.map (·.n)))) (ha : zs.Pairwise (· < ·)) : zs = waitM es :=
  sorted_eq ha (waitM_asc es) fun n => by rw [hp.mem_iff, once_mem, wait_names w]
theorem take1 (es : List Ent) : (es.take 1).map (·.n) = (es.head?.map (·.n)).toList := by cases es <;> rfl
theorem cut1l (us : List V) : cutV us none (some 1) = us.take 1 := by
  unfold cutV
  have : HT.sIx us.length us.length (some 1) = min 1 us.length := HT.sIx_nat _ _ 1
  rw [this, HT.sIx_none]
  cases us with
  | nil => rfl
  | cons u r => simp
def pairD (e : Ent) : PyData := .tuple [.int e.n, .int e.num]
def tripD (e : Ent) : PyData := .tuple [.int e.n, .int e.num, .int e.d]
theorem shaped_pairs (es : List Ent) : shaped (.list (es.map pairD)) = true := shaped_map (fun e _ => by simp [pairD, PyData.canLay0, PyData.canLayAll0]) fun e _ => by simp [pairD, PyData.depth, PyData.depthAll]
theorem shaped_trips (es : List Ent) : shaped (.list (es.map tripD)) = true := shaped_map (fun e _ => by simp [tripD, PyData.canLay0, PyData.canLayAll0]) fun e _ => by simp [tripD, PyData.depth, PyData.depthAll]
theorem shaped_trip (e : Ent) : shaped (tripD e) = true := by simp [tripD, shaped, PyData.canLay0, PyData.canLayAll0, PyData.depth, PyData.depthAll]
theorem RowAt.keep {H H' : Hp} {v : V} {e : Ent} (h : RowAt H v e) (k : ∀ b xs, H b = some (.tup xs) → H' b = some (.tup xs)) : RowAt H' v e := let ⟨p, e1, e2⟩ := h; ⟨p, e1, k _ _ e2⟩
theorem RowsAt.keep {H H' : Hp} {r : Addr} {es : List Ent} (h : RowsAt H r es) (kr : ∀ o, H r = some o → H' r = some o) (k : ∀ b xs, H b = some (.tup xs) → H' b = some (.tup xs)) : RowsAt H' r es := let ⟨us, e1, e2⟩ := h; ⟨us, kr _ e1, pairedI (fun _ _ z => z.keep k) e2⟩
theorem RowsAt.keep0 {H H' : Hp} {r : Addr} {es : List Ent} (h : RowsAt H r es) (k : KeepF [] H H') : RowsAt H' r es := by
  obtain ⟨us, e1, _⟩ := id h
  exact h.keep (fun o e => k r o (by simp) (fun ps z => by rw [e1] at e; cases e; cases z) e) fun b xs e => k b _ (by simp) (fun ps z => by cases z) e
theorem dat_trips {K : PySem.W.Frag} {H : Hp} {l : Addr} {us : List V} {es : List Ent} (h : SqL K H l us) (r : Paired (RowAt H) us es) : DatV K H (.ref l) (.list (es.map tripD)) :=
  .lst h (datVs_map (fun v e ⟨p, e1, e2⟩ => by rw [e1]; exact .tup (SqT.of e2) (.cons (.int _) (.cons (.int _) (.cons (.int _) .nil)))) r)
theorem dat_pairs {K : PySem.W.Frag} {H : Hp} {l : Addr} {us : List V} {es : List Ent} (h : SqL K H l us) (r : Paired (PairAt H) us es) : DatV K H (.ref l) (.list (es.map pairD)) :=
  .lst h (datVs_map (fun v e ⟨p, e1, e2⟩ => by rw [e1]; exact .tup (SqT.of e2) (.cons (.int _) (.cons (.int _) .nil))) r)
theorem shaped_nil : shaped (.list []) = true := by decide
theorem mixNil (ds : List PyData) : noMix (.list ds) (.list []) = true ∧ same (.list ds) (.list []) = decide (ds = []) := by
  cases ds with
  | nil => simp [noMix, noMixAll, same, sameAll]
  | cons d r => simp [noMix, noMixAll, same, sameAll]
theorem paired_lastR {H : Hp} : ∀ {vs : List V} {l : List Ent}, Paired (RowAt H) vs l → vs ≠ [] → ∃ vs' v e, vs = vs' ++ [v] ∧ l.getLast? = some e ∧ RowAt H v e
  | _, _, .nil, h => absurd rfl h
  | _, _, .cons (a := v) (b := e) g .nil, _ => ⟨[], v, e, rfl, rfl, g⟩
  | _, _, .cons (a := v) (b := e) g (.cons h t), _ => by
    obtain ⟨vs', v', e', q1, q2, q3⟩ := paired_lastR (.cons h t) (by simp)
    exact ⟨v :: vs', v', e', by rw [q1]; rfl, by rw [List.getLast?_cons_cons]; exact q2, q3⟩
theorem setI_K {X : Cx} (P : Program) (w : World) (K : PySem.W.Frag) (hc : X.calm = true) (h1 : X.prog = P := by rfl) (h2 : X.w = w := by rfl) (h3 : X.K = K := by rfl) : CallR X (.type "set") (rSetI P w K) := by subst h1 h2 h3; exact call_setI hc
theorem sortS_K {X : Cx} (P : Program) (w : World) (hc : X.calm = true) (h1 : X.prog = P := by rfl) (h2 : X.w = w := by rfl) : CallR X (.builtin "sorted") (rSortS P w) := by subst h1 h2; exact call_sortedS hc
theorem iteE {c : Bool} {A B : Prop} (h : c = false) (hB : B) : if c = true then A else B := by subst h; exact iteF hB
theorem joinT {A : Addr → Hp → Prop} {G : Prop} (tail : Addr → Hp → Prop) (h2 : (∀ l H1, A l H1 → tail l H1) → G) (h1 : ∀ l H1, A l H1 → tail l H1) : G := h2 h1
section
variable {P : Program} {w : World} {K : PySem.W.Frag} {mg : Str → Option Value} {base : Heap} {t : TrT K mg base}
def spTold (t : TrT K mg base) : Sp := fun vs H Q _ => ∃ a r kd tn es q qr, vs = [.ref a, .ref r, .str kd] ∧ TrayAt H a t.C kd tn es q qr ∧ RowsAt H r es ∧ LamAt t.PT LP LQ H ∧ es.length < 64 ∧
  ∀ H', KeepF [] H H' → LamAt t.PT LP LQ H' → Q (.bl true) H'
theorem scTold : FnScope ["_law_tray", "_law_rows", "_law_kind", "_law_names", "_law_name", "_law_waits"] ["_law_tray", "_law_rows", "_law_kind"] (defScope sTold) := ⟨rfl, rfl, rfl, by decide +kernel, rfl, by decide +kernel, by decide +kernel⟩
theorem nd_row : (["_law_row"] : List Str).Nodup := by decide +kernel
theorem nd_nrow : (["_law_name", "_law_row"] : List Str).Nodup := by decide +kernel
/-- [row[0] for row in xs] -/
theorem comp_names {σs : L2.St} {H : Hp} {l : Addr} {us : List V} {es : List Ent} {Q : List V → Hp → Prop} (hl : H l = some (.lst us)) (r : Paired (RowAt H) us es) (hz : es.length ≤ 1000) (q : Q ((es.map (·.n)).map V.int) H) :
    CompW (Itl K l) (gName 0) tYes (tOp (rIxT K) (tVar 0) (tC (.int 0))) (capS [] 1 σs) H Q := by
  have lu := Paired.length r
  refine compW_of (n := us.length) (fun i ys H' => H' = H ∧ ys = ((es.take i).map (·.n)).map V.int) (Nat.le_of_lt (small1000 (by omega))) ⟨rfl, rfl⟩ ?_ ?_ ?_ ?_ ?_
  · rintro i ys H' ⟨_, rfl⟩
    rw [List.length_map, List.length_map, List.length_take]; omega
  · rintro i ys H' hi ⟨rfl, _⟩
    exact ⟨us, us[i], SqL.of hl, List.getElem?_eq_getElem hi⟩
  · rintro ys H' ⟨rfl, _⟩
    exact ⟨us, SqL.of hl, Nat.le_refl _⟩
  · rintro i ys H' hi ⟨rfl, rfl⟩ y H'' ⟨eH, hy⟩
    subst eH
    obtain ⟨e, he, p, rfl, hp⟩ := paired_get' r (hy us (SqL.of hl))
    dsimp only [gName, tYes]
    rw [if_pos rfl]
    refine ⟨_, rfl, p, _, _, .int e.n, rfl, rfl, SqT.of hp, atI_nat (j := 0) rfl, rfl, ?_⟩
    rw [List.take_add_one, he, List.map_append, List.map_append]
    rfl
  · rintro ys H' ⟨rfl, rfl⟩
    rw [lu, List.take_length]
    exact q
/-- [row[:2] for row in xs] -/
theorem comp_pairs {σs : L2.St} {H : Hp} {l : Addr} {us : List V} {es : List Ent} {Q : List V → Hp → Prop} (hl : H l = some (.lst us)) (r : Paired (RowAt H) us es) (hz : es.length ≤ 1000) (q : ∀ ys H', Same H H' → Paired (PairAt H') ys es → Q ys H') :
    CompW (Itl K l) (gName 0) tYes (tSl (rSlT K) (tVar 0) tNoPart (tPart (tC (.int 2)))) (capS [] 1 σs) H Q := by
  have lu := Paired.length r
  refine compW_of (n := us.length) (fun i ys H' => Same H H' ∧ Paired (PairAt H') ys (es.take i)) (Nat.le_of_lt (small1000 (by omega))) ⟨Same.refl _, by rw [List.take_zero]; exact .nil⟩ ?_ ?_ ?_ ?_ ?_
  · rintro i ys H' ⟨_, rp⟩
    rw [Paired.length rp, List.length_take]; omega
  · rintro i ys H' hi ⟨sm, _⟩
    exact ⟨us, us[i], SqL.of (sm _ _ hl), List.getElem?_eq_getElem hi⟩
  · rintro ys H' ⟨sm, _⟩
    exact ⟨us, SqL.of (sm _ _ hl), Nat.le_refl _⟩
  · rintro i ys H' hi ⟨sm, rp⟩ y H'' ⟨eH, hy⟩
    subst eH
    obtain ⟨e, he, p, rfl, hp⟩ := paired_get' r (hy us (SqL.of (sm _ _ hl)))
    dsimp only [gName, tYes]
    rw [if_pos rfl]
    refine ⟨_, rfl, 2, rfl, p, _, rfl, SqT.of (sm _ _ hp), by show ¬ (HT.sIx 3 0 none = 0 ∧ HT.sIx 3 3 (some 2) = 3); decide, fun b hb => ?_⟩
    have s3 : Same H'' (upd H'' b (.tup (cutV [.int e.n, .int e.num, .int e.d] none (some 2)))) := same_new (Same.refl _) hb
    refine ⟨sm.trans s3, ?_⟩
    rw [List.take_add_one, he]
    exact paired_app (pairedI (fun _ _ ⟨p, q1, q2⟩ => ⟨p, q1, s3 _ _ q2⟩) rp) ⟨b, rfl, by rw [upd_same, cut2]⟩
  · rintro ys H' ⟨sm, rp⟩
    rw [lu, List.take_length] at rp
    exact q ys H' sm rp
/-- [row for row in xs if row[0] == name] -/
theorem comp_of {H : Hp} {l : Addr} {us : List V} {es : List Ent} {n : Nat} {Q : List V → Hp → Prop} (hl : H l = some (.lst us)) (r : Paired (RowAt H) us es) (hz : es.length ≤ 1000) (q : ∀ ys, Paired (RowAt H) ys (qOf es n) → Q ys H) :
    CompW (Itl K l) (gName 1) (tTest (tOp rEq (tOp (rIxT K) (tVar 1) (tC (.int 0))) (tVar 0))) (tVar 1) [some (.int (n : Int)), none] H Q := by
  have lu := Paired.length r
  refine compW_of (n := us.length) (fun i ys H' => H' = H ∧ Paired (RowAt H) ys (qOf (es.take i) n)) (Nat.le_of_lt (small1000 (by omega))) ⟨rfl, by rw [List.take_zero]; exact .nil⟩ ?_ ?_ ?_ ?_ ?_
  · rintro i ys H' ⟨_, rp⟩
    have := qOf_len (es.take i) n
    rw [List.length_take] at this
    rw [Paired.length rp]; omega
  · rintro i ys H' hi ⟨rfl, _⟩
    exact ⟨us, us[i], SqL.of hl, List.getElem?_eq_getElem hi⟩
  · rintro ys H' ⟨rfl, _⟩
    exact ⟨us, SqL.of hl, Nat.le_refl _⟩
  · rintro i ys H' hi ⟨rfl, rp⟩ y H'' ⟨eH, hy⟩
    subst eH
    obtain ⟨e, he, p, rfl, hp⟩ := paired_get' r (hy us (SqL.of hl))
    refine ⟨_, rfl, p, _, _, .int e.n, rfl, rfl, SqT.of hp, atI_nat (j := 0) rfl, _, rfl, rfl, _, rfl, ?_⟩
    rw [List.take_add_one, he]
    have ea : qOf (es.take i ++ [e]) n = if e.n = (n : Int) then qOf (es.take i) n ++ [e] else qOf (es.take i) n := qOf_app _ _ _
    refine iteD (fun z => ?_) (fun z => ?_)
    · refine ⟨_, rfl, rfl, ?_⟩
      show Paired _ _ (qOf (es.take i ++ [e]) n)
      rw [ea, if_pos (by injection z)]
      exact paired_app rp ⟨p, rfl, hp⟩
    · refine ⟨rfl, ?_⟩
      show Paired _ _ (qOf (es.take i ++ [e]) n)
      rw [ea, if_neg (fun y => z (by rw [y]))]
      exact rp
  · rintro ys H' ⟨rfl, rp⟩
    rw [lu, List.take_length] at rp
    exact q ys rp
theorem keep_upd {F : List Addr} {H H' : Hp} {l : Addr} {o : HO} (k : KeepF F H H') (n : H l = none) : KeepF F H (upd H' l o) := fun b o' h1 h2 e => by
  rw [upd_ne (ne_of_none e n)]; exact k b o' h1 h2 e
theorem lamAt_lst {PT : Addr} {pos : Pos} {qual : Str} {H : Hp} {l : Addr} {xs : List V} {o : HO} (h : LamAt PT pos qual H) (hl : H l = some (.lst xs)) : LamAt PT pos qual (upd H l o) :=
  lamAt_keep (F := [l]) h (fun b o' nb e => by rw [upd_ne (fun z => nb (by rw [z]; simp))]; exact e) fun b hb o' e => by
    have : b = l := by simpa using hb
    rw [this, hl] at e; cases e
    exact .inr ⟨_, rfl⟩
theorem dat_ints {H : Hp} {l : Addr} {ns : List Int} (h : H l = some (.lst (ns.map V.int))) : DatV K H (.ref l) (.list (ns.map PyData.int)) :=
  .lst (SqL.of h) (by induction ns with
    | nil => exact .nil
    | cons n r ih => exact .cons (.int n) (by
        clear h ih
        induction r with
        | nil => exact .nil
        | cons m r ih => exact .cons (.int m) ih))
theorem shaped_ints (ns : List Int) : shaped (.list (ns.map PyData.int)) = true := shaped_map (fun e _ => by simp [PyData.canLay0]) fun e _ => by simp [PyData.depth]
/-- the parts of _law_told -/
theorem ok_Told {f : Addr} {fd : FuncData} (F : Fun K "_law_told" "_law_told" sTold f fd) (T : TrOk t) (L : BL mg) : FnOk P w K mg base CX0 3 f fd ["_law_tray", "_law_rows", "_law_kind"] (spTold t) := by
  have GF : FnOk P w K mg base CX0 2 t.fF t.fdF ["self"] (spFronts t.C t.PT) := ok_TFronts T.FF T.B T.cT T.hC T.hB
  have GL : FnOk P w K mg base CX0 1 t.fLs t.fdLs ["self"] (spListed t.C) := ok_TListed T.FLs T.B T.cT
  have GE : FnOk P w K mg base CX0 1 t.fE t.fdE ["self"] (spEmpty t.C) := ok_TEmpty T.FE T.B T.cT
  have GA : FnOk P w K mg base CX0 1 t.fLt t.fdLt ["self", "name"] (spLatest t.C) := ok_TLatest T.FLt T.B T.cT
  refine F.ok scTold (fun vs H Q E h => ?_) (fun cdv A outer s H vs Q E hr h => ?_)
  · obtain ⟨a, r, kd, tn, es, q, qr, rfl, _⟩ := h
    rfl
  · obtain ⟨a, r, kd, tn, es, q, qr, rfl, Ta, hR, hlam, hz, k⟩ := h
    have hu := hr.units
    have hr1 := hr.mono (j := 1) (by decide)
    refine ⟨_, pss_cons (ps_set (i := 3) scTold.nd rfl (Or.inl rfl) (pe_callB (sortS_K P w rfl) rfl T.B.sorted boot_sorted (pa_cons (pe_callTy (setI_K P w K rfl) rfl L.set boot_set' (pa_cons
        (pe_comp (N := ["_law_row"]) (idx := []) rfl (ScC.of (by kernel_rfl)) (gkeep_name (Nat.zero_le _)) (pi_list (pv 1)) (fun _ _ _ _ => pg_name (i := 0) nd_row rfl (Or.inl rfl) (.inr rfl)) (fun _ _ _ _ => pts_nil) (fun _ _ _ _ => pe_ix (ixt_K K) (pv 0) pe_int (fun _ _ => rfl))) pa_nil)) pa_nil)))
      (pss_cons (ps_if (pt_cmpR op_eq (pv 2) pe_str (nomark _)) (pss_one (ps_setComp (i := 3) (N := ["_law_row"]) (idx := []) scTold.nd rfl rfl rfl (ScC.of (by kernel_rfl)) (gkeep_name (Nat.zero_le _)) (pi_list (pe_slice sl_list (pv 1) po_none (po_some pe_int)))
          (fun _ _ _ _ => pg_name (i := 0) nd_row rfl (Or.inl rfl) (.inr rfl)) (fun _ _ _ _ => pts_nil) (fun _ _ _ _ => pe_ix (ixt_K K) (pv 0) pe_int (fun _ _ => rfl)))) pss_nil)
      (pss_cons (ps_if (PW.pt (pw_or (pt_cmpR (op_neD hu) (pe_meth0 (pv 0) T.cT.cl T.mF GF hr T.bF .nil pass0) (pv 3) (nomark _))
          (pw_or (pt_cmpR (op_neD hu) (pe_meth0 (pv 0) T.cT.cl T.mLs GL hr1 T.bLs .nil pass0) (pe_comp (N := ["_law_row"]) (idx := []) rfl (ScC.of (by kernel_rfl)) (gkeep_name (Nat.zero_le _)) (pi_list (pv 1)) (fun _ _ _ _ => pg_name (i := 0) nd_row rfl (Or.inl rfl) (.inr rfl)) (fun _ _ _ _ => pts_nil) (fun _ _ _ _ => pe_slice (slt_K K) (pv 0) po_none (po_some pe_int))) (nomark _))
          (pw_or1 (pt_cmpR op_ne (pe_meth0 (pv 0) T.cT.cl T.mE GE hr1 T.bE .nil pass0) (pe_cmpR (op_eqD hu) (pv 1) (pe_lst pa_nil) (nomark _)) (nomark _)))))) (pss_one (ps_ret pe_bl)) pss_nil)
      (pss_cons (ps_expr (pe_bm PySem.F.plainAttrs_list PySem.F.slot_list_append PySem.F.type_list_append mt_append (pe_meth0 (pv 0) T.cT.cl T.mF GF hr T.bF .nil pass0) (pa_cons pe_int pa_nil)))
      (pss_cons (ps_expr (pe_bm0 PySem.F.plainAttrs_list PySem.F.slot_list_clear PySem.F.type_list_clear mt_clear (pe_meth0 (pv 0) T.cT.cl T.mLs GL hr1 T.bLs .nil pass0)))
      (pss_cons (ps_for PassesOwn.never rfl (pi_range1 rfl T.B.range (pa_cons pe_int pa_nil)) (pg_name (i := 4) scTold.nd rfl (Or.inr rfl))
          (pss_cons (ps_setComp (i := 5) (N := ["_law_name", "_law_row"]) (idx := [4]) scTold.nd rfl rfl rfl (ScC.of (by kernel_rfl)) (gkeep_name (Nat.le_refl _)) (pi_list (pv 1)) (fun _ _ _ _ => pg_name (i := 1) nd_nrow rfl (Or.inl rfl) (.inr rfl))
              (fun _ _ _ _ => pts_one (pt_cmpR op_eq (pe_ix (ixt_K K) (pv 1) pe_int (fun _ _ => rfl)) (pv 0) (nomark _))) (fun _ _ _ _ => pv 1))
          (pss_one (ps_if (pt_cmpR (op_neD hu) (pe_meth (pv 0) T.cT.cl T.mLt GA hr1 T.bLt .nil pass0 (pa_cons (pv 4) pa_nil))
              (pe_ix ix_list (pe_op op_cat (pv 5) (pe_lst (pa_cons pe_non pa_nil))) (pe_callB (call_max2 rfl) rfl L.max boot_max (pa_cons pe_int (pa_cons (pe_op op_sub (pe_callB call_len_seq rfl T.B.len PySem.boot_len (pa_cons (pv 5) pa_nil)) pe_int) pa_nil))) (fun _ _ => rfl)) (nomark _)) (pss_one (ps_ret pe_bl)) pss_nil))))
      (pss_one (ps_ret pe_bl))))))), ?_⟩
    obtain ⟨us, hr0, rp⟩ := id hR
    have lp := Paired.length rp
    refine ⟨_, rfl, r, rfl, ⟨_, SqL.of hr0⟩, comp_names hr0 rp (by omega) ⟨by rw [List.length_map, List.length_map, sizeLine_eq]; omega, fun l0 n0 => ?_⟩⟩
    refine ⟨l0, _, rfl, SqL.of upd_same, by rw [List.length_map]; omega, fun ls nls => ⟨ls, _, rfl, upd_same, ?_, fun l zs nl hp ha => ?_⟩⟩
    · have := once_len (es.map (·.n))
      rw [List.length_map] at this
      omega
    have ez := names_sorted Ta.wf hp ha
    subst ez
    have s1 : Same H (upd (upd (upd H l0 (.lst ((es.map (·.n)).map V.int))) ls (setO P w ls (onceL (es.map (·.n))))) l (.lst ((waitM es).map V.int))) := same_new (same_new (same_new (Same.refl _) n0) nls) nl
    have hl1 : (upd (upd (upd H l0 (.lst ((es.map (·.n)).map V.int))) ls (setO P w ls (onceL (es.map (·.n))))) l (.lst ((waitM es).map V.int))) l = some (.lst ((waitM es).map V.int)) := upd_same
    generalize (upd (upd (upd H l0 (.lst ((es.map (·.n)).map V.int))) ls (setO P w ls (onceL (es.map (·.n))))) l (.lst ((waitM es).map V.int))) = H1 at s1 hl1
    refine joinT (A := fun l H1 => KeepF [] H H1 ∧ LamAt t.PT LP LQ H1 ∧ H1 l = some (.lst ((frontsM kd es).map V.int))) ?tail (fun rest => ?h2) ?h1
    case h2 =>
      refine ⟨_, rfl, rfl, _, rfl, iteD (fun z => ?_) (fun z => ?_)⟩
      · have ek : kd = "row" := strE z
        have g0 := s1 _ _ hr0
        have rp1 : Paired (RowAt H1) us es := pairedI (fun _ _ z => z.keep fun b xs e => s1 _ _ e) rp
        refine ⟨_, rfl, 1, rfl, r, _, rfl, SqL.of g0, fun lc nc => ?_⟩
        rw [cut1l]
        have s2 : Same H1 (upd H1 lc (.lst (us.take 1))) := same_new (Same.refl _) nc
        have rp2 : Paired (RowAt (upd H1 lc (.lst (us.take 1)))) (us.take 1) (es.take 1) := by
          have := pairedI (fun _ _ z => z.keep fun b xs e => s2 _ _ e) rp1
          cases this with
          | nil => exact .nil
          | cons h t => exact .cons h .nil
        refine ⟨lc, rfl, ⟨_, SqL.of upd_same⟩, comp_names upd_same rp2 (by rw [List.length_take]; omega) ⟨by rw [List.length_map, List.length_map, List.length_take, sizeLine_eq]; omega, fun l3 n3 => ?_⟩⟩
        have s3 : Same H1 (upd (upd H1 lc (.lst (us.take 1))) l3 (.lst (((es.take 1).map (·.n)).map V.int))) := same_new s2 n3
        have hl3 : (upd (upd H1 lc (.lst (us.take 1))) l3 (.lst (((es.take 1).map (·.n)).map V.int))) l3 = some (.lst ((frontsM kd es).map V.int)) := by
          rw [upd_same, take1, frontsM, if_pos ek]
        obtain ⟨H3, e3⟩ : ∃ H3, H3 = (upd (upd H1 lc (.lst (us.take 1))) l3 (.lst (((es.take 1).map (·.n)).map V.int))) := ⟨_, rfl⟩
        rw [← e3] at s3 hl3 ⊢
        exact rest l3 H3 ⟨KeepF.of (s1.trans s3), lamAt_same hlam (s1.trans s3), hl3⟩
      · refine rest l H1 ⟨KeepF.of s1, lamAt_same hlam s1, ?_⟩
        rw [frontsM, if_neg (strD z)]; exact hl1
    case h1 => 
      rintro l H1 ⟨k1, lam1, hl⟩
      have Ta1 := Ta.keep0 k1
      have hR1 := hR.keep0 k1
      obtain ⟨dx, fs, ea1, e1, e2, e3, em, el⟩ := id Ta1.obj
      refine ⟨_, rfl, a, dx, fs, rfl, ea1, em "fronts" (by decide +kernel), a, kd, tn, es, q, qr, rfl, Ta1, lam1, fun H2 l2 k2 lam2 n2 h2 => ?_⟩
      have hl2 : H2 l = some (.lst ((frontsM kd es).map V.int)) := k2 l _ (by simp) (fun ps z => by cases z) hl
      refine ⟨_, rfl, neD_self (dat_ints h2) (dat_ints hl2) (shaped_ints _) ⟨_, rfl, iteF ?_⟩⟩
      have Ta2 := Ta1.keep0 k2
      have hR2 := hR1.keep0 k2
      obtain ⟨dx2, fs2, ea2, _, _, _, em2, _⟩ := id Ta2.obj
      refine ⟨_, rfl, a, dx2, fs2, rfl, ea2, em2 "listed" (by decide +kernel), a, kd, tn, es, q, qr, rfl, Ta2, hz, fun H3 l3 u3 s3 n3 h3 p3 => ?_⟩
      obtain ⟨us3, hr3, rp3⟩ := id (hR2.keep0 (KeepF.of s3))
      refine ⟨_, rfl, r, rfl, ⟨_, SqL.of hr3⟩, comp_pairs hr3 rp3 (by omega) fun ys H4 s4 p4 => ⟨by rw [Paired.length p4, sizeLine_eq]; omega, fun l4 n4 => ?_⟩⟩
      have s5 : Same H3 (upd H4 l4 (.lst ys)) := same_new s4 n4
      have s5' : Same H4 (upd H4 l4 (.lst ys)) := same_new (Same.refl _) n4
      refine neD_self (dat_pairs (SqL.of (s5 _ _ h3)) (pairedI (fun _ _ ⟨p, q1, q2⟩ => ⟨p, q1, s5 _ _ q2⟩) p3)) (dat_pairs (SqL.of upd_same) (pairedI (fun _ _ ⟨p, q1, q2⟩ => ⟨p, q1, s5' _ _ q2⟩) p4)) (shaped_pairs es) ⟨_, rfl, iteF ?_⟩
      have k5 : KeepF [] H (upd H4 l4 (.lst ys)) := k1.trans (k2.trans (KeepF.of (s3.trans s5)))
      have lam5 : LamAt t.PT LP LQ (upd H4 l4 (.lst ys)) := lamAt_same lam2 (s3.trans s5)
      generalize upd H4 l4 (.lst ys) = H5 at k5 lam5
      have Ta5 := Ta.keep0 k5
      obtain ⟨dx5, fs5, ea5, _, _, _, em5, _⟩ := id Ta5.obj
      refine ⟨_, rfl, a, dx5, fs5, rfl, ea5, em5 "is_empty" (by decide +kernel), a, kd, tn, es, q, qr, rfl, Ta5, fun H6 s6 => ?_⟩
      have k6 : KeepF [] H H6 := k5.trans (KeepF.of s6)
      have lam6 : LamAt t.PT LP LQ H6 := lamAt_same lam5 s6
      refine ⟨_, rfl, by decide, fun l7 n7 => ?_⟩
      have s7 : Same H6 (upd H6 l7 (.lst [])) := same_new (Same.refl _) n7
      have k7 : KeepF [] H (upd H6 l7 (.lst [])) := k6.trans (KeepF.of s7)
      obtain ⟨us7, hr7, rp7⟩ := id (hR.keep0 k7)
      refine ⟨_, _, dat_trips (SqL.of hr7) rp7, .lst (SqL.of upd_same) .nil, shaped_trips es, shaped_nil, (mixNil _).1, rfl, _, rfl, ?_⟩
      have eN : (!decide (V.bl (decide (es = [])) = V.bl (if false = true then !same (.list (es.map tripD)) (.list []) else same (.list (es.map tripD)) (.list [])))) = false := by
        rw [if_neg (by decide), (mixNil _).2]
        cases es <;> simp
      refine iteE eN ?_
      generalize upd H6 l7 (.lst []) = H7 at k7 s7
      have lam7 : LamAt t.PT LP LQ H7 := lamAt_same lam6 s7
      have Ta7 := Ta.keep0 k7
      obtain ⟨dx7, fs7, ea7, _, _, _, em7, _⟩ := id Ta7.obj
      refine ⟨_, rfl, a, dx7, fs7, rfl, ea7, em7 "fronts" (by decide +kernel), a, kd, tn, es, q, qr, rfl, Ta7, lam7, fun H8 l8 k8 lam8 n8 h8 => ?_⟩
      refine ⟨.inl ⟨rfl, _, SqL.of h8⟩, l8, _, _, rfl, rfl, h8, ?_, ?_⟩
      · rw [List.length_map, sizeLine_eq]
        have : (frontsM kd es).length ≤ 12 := by
          unfold frontsM
          by_cases z : kd = "row"
          · rw [if_pos z]; cases es <;> simp
          · rw [if_neg z]; unfold waitM
            rw [List.length_map]
            exact Nat.le_trans (List.length_filter_le _ _) (by simp)
        omega
      have k9 : KeepF [] H (upd H8 l8 (.lst ((frontsM kd es).map V.int ++ [.int 5]))) := k7.trans (keep_upd k8 n8)
      have lam9 : LamAt t.PT LP LQ (upd H8 l8 (.lst ((frontsM kd es).map V.int ++ [.int 5]))) := lamAt_lst lam8 h8
      generalize upd H8 l8 (.lst ((frontsM kd es).map V.int ++ [.int 5])) = H9 at k9 lam9
      have Ta9 := Ta.keep0 k9
      obtain ⟨dx9, fs9, ea9, _, _, _, em9, _⟩ := id Ta9.obj
      refine ⟨_, rfl, a, dx9, fs9, rfl, ea9, em9 "listed" (by decide +kernel), a, kd, tn, es, q, qr, rfl, Ta9, hz, fun Ha la ua sa na ha pa => ?_⟩
      refine ⟨.inl ⟨rfl, _, SqL.of ha⟩, la, _, rfl, rfl, ha, ?_⟩
      have kb : KeepF [] H (upd Ha la (.lst [])) := k9.trans (keep_upd (KeepF.of sa) na)
      have lamb : LamAt t.PT LP LQ (upd Ha la (.lst [])) := lamAt_lst (lamAt_same lam9 sa) ha
      generalize upd Ha la (.lst []) = Hb at kb lamb
      refine ⟨5, rfl, by decide, by decide, ?_⟩
      refine for_range (n := 5) (fun i σ H' => (∃ nm wt, σ = [some (.ref a), some (.ref r), some (.str kd), some (.ref l), nm, wt]) ∧ KeepF [] H H' ∧ LamAt t.PT LP LQ H') ⟨⟨none, none, rfl⟩, kb, lamb⟩ ?_ ?_
      · rintro i σ Hc hi ⟨⟨nm, wt, rfl⟩, kc, lamc⟩
        obtain ⟨usc, hrc, rpc⟩ := id (hR.keep0 kc)
        refine ⟨_, rfl, r, rfl, ⟨_, SqL.of hrc⟩, ?_⟩
        rw [Int.zero_add]
        refine comp_of (n := i) hrc rpc (by omega) fun ys py => ⟨?_, fun lw nw => ?_⟩
        · rw [Paired.length py, sizeLine_eq]
          have := qOf_len es i
          omega
        have sd : Same Hc (upd Hc lw (.lst ys)) := same_new (Same.refl _) nw
        have hlw : upd Hc lw (.lst ys) lw = some (.lst ys) := upd_same
        have pyd : Paired (RowAt (upd Hc lw (.lst ys))) ys (qOf es i) := pairedI (fun _ _ z => z.keep fun b xs e => sd _ _ e) py
        have kd' : KeepF [] H (upd Hc lw (.lst ys)) := kc.trans (KeepF.of sd)
        have lamd : LamAt t.PT LP LQ (upd Hc lw (.lst ys)) := lamAt_same lamc sd
        generalize upd Hc lw (.lst ys) = Hd at sd hlw pyd kd' lamd
        have Td := Ta.keep0 kd'
        obtain ⟨dxd, fsd, ead, _, _, _, emd, _⟩ := id Td.obj
        have lq := qOf_len es i
        have ly := Paired.length pyd
        refine ⟨_, rfl, a, dxd, fsd, rfl, ead, emd "latest" (by decide +kernel), _, rfl, a, (i : Int), kd, tn, es, q, qr, rfl, Td, by omega, by omega, by omega, fun hno => ?_, fun e st he hst => ?_⟩
        · rw [Int.toNat_natCast] at hno
          have eq0 : qOf es i = [] := List.getLast?_eq_none_iff.mp hno
          rw [eq0] at pyd
          cases pyd
          refine ⟨_, rfl, by decide, fun lN nN => ⟨lw, lN, _, _, rfl, rfl, same_new (Same.refl _) nN _ _ hlw, upd_same, by decide, fun p np => ?_⟩⟩
          have se : Same Hd (upd (upd Hd lN (.lst [.non])) p (.lst ([] ++ [.non]))) := same_new (same_new (Same.refl _) nN) np
          refine ⟨_, rfl, lw, _, rfl, .inl (SqL.of (se _ _ hlw)), _, _, rfl, rfl, _, _, rfl, p, _, _, .non, rfl, rfl, SqL.of upd_same, atI_nat (j := 0) rfl, ?_⟩
          refine neD_self .non .non (by decide) ⟨_, rfl, iteF ?_⟩
          exact ⟨⟨_, _, rfl⟩, kd'.trans (KeepF.of se), lamAt_same lamd se⟩
        · rw [Int.toNat_natCast] at he
          have hy : ys ≠ [] := fun z => by
            subst z
            cases pyd' : qOf es i with
            | nil => unfold latestM at he; rw [pyd'] at he; cases he
            | cons x y => rw [pyd'] at ly; cases ly
          obtain ⟨vs', v, e', q1, q2, p', rfl, q3⟩ := paired_lastR pyd hy
          have ee : e = e' := by
            unfold latestM at he
            rw [he] at q2; injection q2
          subst ee
          have ll : ys.length = vs'.length + 1 := by rw [q1]; simp
          refine ⟨_, rfl, by decide, fun lN nN => ⟨lw, lN, _, _, rfl, rfl, same_new (Same.refl _) nN _ _ hlw, upd_same, ?_, fun p np => ?_⟩⟩
          · rw [sizeLine_eq]; show ys.length + 1 ≤ _; omega
          have se : Same Hd (upd (upd Hd lN (.lst [.non])) p (.lst (ys ++ [.non]))) := same_new (same_new (Same.refl _) nN) np
          refine ⟨_, rfl, lw, _, rfl, .inl (SqL.of (se _ _ hlw)), _, _, rfl, rfl, _, _, rfl, p, _, _, .ref p', rfl, rfl, SqL.of upd_same, ?_, ?_⟩
          · have ei : (if (ys.length : Int) - 1 > 0 then (ys.length : Int) - 1 else 0) = ((vs'.length : Nat) : Int) := by
              split <;> omega
            rw [ei]
            refine atI_nat ?_
            rw [q1]
            simp
          refine neD_self (d := tripD e) (.tup (SqT.of (se _ _ hst)) (.cons (.int _) (.cons (.int _) (.cons (.int _) .nil)))) (.tup (SqT.of (se _ _ q3)) (.cons (.int _) (.cons (.int _) (.cons (.int _) .nil)))) (shaped_trip e) ⟨_, rfl, iteF ?_⟩
          exact ⟨⟨_, _, rfl⟩, kd'.trans (KeepF.of se), lamAt_same lamd se⟩
      · rintro σ Hz ⟨⟨nm, wt, rfl⟩, kz, lamz⟩
        exact k Hz kz lamz
end
end TL


namespace TL
open PySem PySem.Spec PyProof.Rows PySem.SeqAt L2 L3
theorem passE {P : Program} {w : World} {X : Cx} : Passes (CXE P w) X E0 := fun _ _ _ _ _ _ _ h => by
  obtain ⟨_, _, _, _, _, _, _, _, _, _, _, _, _, _, _, z⟩ := h
  exact z.elim
theorem sqL_keep {K : PySem.W.Frag} {H H' : Hp} {a : Addr} {xs : List V} (k : KeepF [] H H') (h : SqL K H a xs) : SqL K H' a xs := by
  rcases h with (h | ⟨o, h⟩) | h
  · exact .inl (.inl (k _ _ (by simp) (fun ps z => by cases z) h))
  · exact .inl (.inr ⟨o, k _ _ (by simp) (fun ps z => by cases z) h⟩)
  · exact .inr h
theorem cutA (us : List V) (i : Nat) : cutV us none (some (i : Int)) = us.take i := by
  unfold cutV
  rw [HT.sIx_nat, HT.sIx_none, List.drop_zero, Nat.sub_zero]
  rcases Nat.le_total i us.length with h | h
  · rw [Nat.min_eq_left h]
  · rw [Nat.min_eq_right h, List.take_length, List.take_of_length_le h]
theorem cutB (us : List V) (i : Nat) : cutV us (some (i : Int)) none = us.drop i := by
  unfold cutV
  rw [HT.sIx_nat, HT.sIx_none]
  rcases Nat.le_total i us.length with h | h
  · rw [Nat.min_eq_left h]
    exact List.take_of_length_le (by rw [List.length_drop]; exact Nat.le_refl _)
  · rw [Nat.min_eq_right h, List.drop_eq_nil_of_le h, List.drop_eq_nil_of_le (Nat.le_refl _)]
    simp
theorem paired_take {α β : Type} {F : α → β → Prop} : ∀ {l : List α} {r : List β} (i : Nat), Paired F l r → Paired F (l.take i) (r.take i)
  | _, _, 0, _ => by simp; exact .nil
  | _, _, _ + 1, .nil => .nil
  | _, _, i + 1, .cons h t => .cons h (paired_take i t)
theorem paired_drop {α β : Type} {F : α → β → Prop} : ∀ {l : List α} {r : List β} (i : Nat), Paired F l r → Paired F (l.drop i) (r.drop i)
  | _, _, 0, h => by simpa using h
  | _, _, _ + 1, .nil => .nil
  | _, _, i + 1, .cons _ t => paired_drop i t
theorem paired_cat {α β : Type} {F : α → β → Prop} : ∀ {l l' : List α} {r r' : List β}, Paired F l r → Paired F l' r' → Paired F (l ++ l') (r ++ r')
  | _, _, _, _, .nil, h => h
  | _, _, _, _, .cons a t, h => .cons a (paired_cat t h)
theorem firstV_cases (es : List Ent) (n : Int) : (firstV es n = .non ∧ ∀ e ∈ es, e.n ≠ n) ∨ ∃ (i : Nat) (e : Ent), firstV es n = .int i ∧ es[i]? = some e ∧ e.n = n ∧ (∀ j e', j < i → es[j]? = some e' → e'.n ≠ n) ∧ dropM es n = es.take i ++ es.drop (i + 1) := by
  unfold firstV
  cases hf : es.findIdx? (fun e => decide (e.n = n)) with
  | none =>
    refine .inl ⟨rfl, fun e he => ?_⟩
    have := (List.findIdx?_eq_none_iff.mp hf) e he
    simpa using this
  | some i =>
    obtain ⟨h1, h2, h3⟩ := List.findIdx?_eq_some_iff_getElem.mp hf
    refine .inr ⟨i, es[i], rfl, List.getElem?_eq_getElem h1, by simpa using h2, fun j e' hj he' => ?_, ?_⟩
    · obtain ⟨h4, h5⟩ := List.getElem?_eq_some_iff.mp he'
      have := h3 j hj
      rw [h5] at this
      simpa using this
    · unfold dropM
      rw [List.eraseP_eq_eraseIdx, hf]
      exact List.eraseIdx_eq_take_drop_succ _ _
theorem head_of {es : List Ent} {n : Int} {i : Nat} {e e' : Ent} (hn : 0 ≤ n) (he : es[i]? = some e) (hen : e.n = n) (hno : ∀ j e', j < i → es[j]? = some e' → e'.n ≠ n) (h : (qOf es n.toNat).head? = some e') : e' = e := by
  unfold qOf at h
  rw [List.head?_filter] at h
  obtain ⟨h1, j, hj, h2, h3⟩ := List.find?_eq_some_iff_getElem.mp h
  have en : e'.n = n := by
    have : e'.n = ((n.toNat : Nat) : Int) := by simpa using h1
    omega
  obtain ⟨hi, ei⟩ := List.getElem?_eq_some_iff.mp he
  have jl : ¬ j < i := fun z => hno j e' z (by rw [List.getElem?_eq_getElem hj, h2]) en
  have il : ¬ i < j := fun z => by
    have := h3 i z
    rw [ei] at this
    have z2 : ¬ e.n = ((n.toNat : Nat) : Int) := by simpa using this
    exact z2 (by omega)
  have : i = j := by omega
  subst this
  exact h2.symm.trans ei
theorem frontsIn {kd : Str} {tn : Int} {es : List Ent} {n : Int} {i : Nat} {e : Ent} (w : WfE tn es) (he : es[i]? = some e) (hen : e.n = n) (hk : kd ≠ "row" ∨ i = 0) : n ∈ frontsM kd es := by
  unfold frontsM
  by_cases z : kd = "row"
  · rw [if_pos z]
    rcases hk with h | h
    · exact absurd z h
    · subst h
      cases es with
      | nil => simp at he
      | cons x r => simp at he; subst he; simp [hen]
  · rw [if_neg z, wait_names w]
    exact List.mem_map.mpr ⟨e, List.mem_of_getElem? he, hen⟩
theorem frontsNo {kd : Str} {tn : Int} {es : List Ent} {n : Int} (w : WfE tn es) (h : (∀ e ∈ es, e.n ≠ n) ∨ (kd = "row" ∧ ∀ e, es[0]? = some e → e.n ≠ n)) : n ∉ frontsM kd es := by
  intro z
  unfold frontsM at z
  by_cases hk : kd = "row"
  · rw [if_pos hk] at z
    cases es with
    | nil => simp at z
    | cons x r =>
      have z' : n = x.n := by simpa using z
      rcases h with h | ⟨_, h⟩
      · exact h x (by simp) z'.symm
      · exact h x rfl z'.symm
  · rw [if_neg hk, wait_names w] at z
    obtain ⟨e, he, e1⟩ := List.mem_map.mp z
    rcases h with h | ⟨h, _⟩
    · exact h e he e1
    · exact hk h
theorem three (c : Int) : ∃ kd : Str, atI [V.str "row", V.str "name", V.str "none"] (c % 3) = some (.str kd) ∧ (V.str kd = .str "row" ∨ V.str kd = .str "name" ∨ V.str kd = .str "none") := by
  have h1 : 0 ≤ c % 3 := Int.emod_nonneg _ (by decide)
  have h2 : c % 3 < 3 := Int.emod_lt_of_pos _ (by decide)
  have : c % 3 = 0 ∨ c % 3 = 1 ∨ c % 3 = 2 := by omega
  rcases this with e | e | e <;> rw [e]
  · exact ⟨_, rfl, .inl rfl⟩
  · exact ⟨_, rfl, .inr (.inl rfl)⟩
  · exact ⟨_, rfl, .inr (.inr rfl)⟩
theorem eight {Pv : V → Prop} {xs : List V} (h8 : xs.length = 8) (h : ∀ v ∈ xs, Pv v) (c : Int) : ∃ v, atI xs (c / 3 % 8) = some v ∧ Pv v := by
  have h1 : 0 ≤ c / 3 % 8 := Int.emod_nonneg _ (by decide)
  have h2 : c / 3 % 8 < 8 := Int.emod_lt_of_pos _ (by decide)
  have hl : (c / 3 % 8).toNat < xs.length := by omega
  have e : c / 3 % 8 = (((c / 3 % 8).toNat : Nat) : Int) := by omega
  refine ⟨xs[(c / 3 % 8).toNat], ?_, h _ (List.getElem_mem hl)⟩
  exact (congrArg (atI xs) e).trans (atI_nat (List.getElem?_eq_getElem hl))
theorem iteU {c : Bool} {A B : Prop} (h : c = true) (hA : A) : if c = true then A else B := by subst h; exact iteT hA
theorem join0 {A : Prop} {G : Prop} (S : Prop) (h2 : (A → S) → G) (h1 : A → S) : G := h2 h1
/-- nothing of H but a table stands there -/
def NewR (H : Hp) (r : Addr) : Prop := ∀ o, H r = some o → ∃ ps, o = HO.tbl ps
theorem joinR {A : Addr → V → Hp → Prop} {G : Prop} (tail : Addr → V → Hp → Prop) (h2 : (∀ r v H1, A r v H1 → tail r v H1) → G) (h1 : ∀ r v H1, A r v H1 → tail r v H1) : G := h2 h1
theorem joinS {A : Option V → Option V → Addr → Hp → Prop} {G : Prop} (tail : Option V → Option V → Addr → Hp → Prop) (h2 : (∀ x y r H1, A x y r H1 → tail x y r H1) → G) (h1 : ∀ x y r H1, A x y r H1 → tail x y r H1) : G := h2 h1
section
variable {X : Cx}
theorem se_con {c : Const} {i : Nat} {p : Pos} {es : List Expr} {env : Env} : starEach (.Constant c i p :: es) env = (false, eval (.Constant c i p) env) :: starEach es env := by rw [starEach]; intro e p h; cases h
theorem se_lst {xs : List Expr} {p : Pos} {es : List Expr} {env : Env} : starEach (.List xs p :: es) env = (false, eval (.List xs p) env) :: starEach es env := by rw [starEach]; intro e p h; cases h
theorem se_tup {xs : List Expr} {i : Nat} {p : Pos} {es : List Expr} {env : Env} : starEach (.Tuple xs i p :: es) env = (false, eval (.Tuple xs i p) env) :: starEach es env := by rw [starEach]; intro e p h; cases h
theorem pa_str {a : Str} {i : Nat} {p : Pos} {es : List Expr} {t : TA} (hr : PA X es t) : PA X (.Constant (.str a) i p :: es) (tCons (tC (.str a)) t) := pa_cons pe_str hr se_con
theorem pa_non {i : Nat} {p : Pos} {es : List Expr} {t : TA} (hr : PA X es t) : PA X (.Constant .none i p :: es) (tCons (tC .non) t) := pa_cons pe_non hr se_con
theorem pa_lstE {xs : List Expr} {p : Pos} {es : List Expr} {te : TE} {t : TA} (ha : PE X (.List xs p) te) (hr : PA X es t) : PA X (.List xs p :: es) (tCons te t) := pa_cons ha hr se_lst
theorem pa_tupE {xs : List Expr} {i : Nat} {p : Pos} {es : List Expr} {te : TE} {t : TA} (ha : PE X (.Tuple xs i p) te) (hr : PA X es t) : PA X (.Tuple xs i p :: es) (tCons te t) := pa_cons ha hr se_tup
theorem pa_oth5 {e g : Str} {i6 i7 i8 : Nat} {p6 p7 p8 p9 q : Pos} : PA X [.List [.Constant (.str e) i6 p6] p7, .List [] p8, .Tuple [.Constant (.str g) i7 p9] i8 q] (tCons (tLst (tCons (tC (.str e)) tNil)) (tCons (tLst tNil) (tCons (tTup (tCons (tC (.str g)) tNil)) tNil))) := pa_lstE (pe_lst (pa_str pa_nil)) (pa_lstE (pe_lst pa_nil) (pa_tupE (pe_tup (pa_str pa_nil)) pa_nil))
theorem pa_pre {a b c d : Str} {i1 i2 i3 i4 i5 : Nat} {p1 p2 p3 p4 p5 : Pos} {es : List Expr} {t : TA} (h : PA X es t) : PA X (.Constant (.str a) i1 p1 :: .Constant (.str b) i2 p2 :: .Constant (.str c) i3 p3 :: .Constant (.str d) i4 p4 :: .Constant .none i5 p5 :: es)
    (tCons (tC (.str a)) (tCons (tC (.str b)) (tCons (tC (.str c)) (tCons (tC (.str d)) (tCons (tC .non) t))))) := pa_str (pa_str (pa_str (pa_str (pa_non h))))
theorem pe_others {a b c d e g : Str} {i1 i2 i3 i4 i5 i6 i7 i8 : Nat} {p1 p2 p3 p4 p5 p6 p7 p8 p9 q p : Pos} : PE X (.List [.Constant (.str a) i1 p1, .Constant (.str b) i2 p2, .Constant (.str c) i3 p3, .Constant (.str d) i4 p4, .Constant .none i5 p5, .List [.Constant (.str e) i6 p6] p7, .List [] p8, .Tuple [.Constant (.str g) i7 p9] i8 q] p)
    (tLst (tCons (tC (.str a)) (tCons (tC (.str b)) (tCons (tC (.str c)) (tCons (tC (.str d)) (tCons (tC .non) (tCons (tLst (tCons (tC (.str e)) tNil)) (tCons (tLst tNil) (tCons (tTup (tCons (tC (.str g)) tNil)) tNil))))))))) :=
  @pe_lst X _ _ _ (@pa_pre X a b c d i1 i2 i3 i4 i5 p1 p2 p3 p4 p5 _ _ (@pa_oth5 X e g i6 i7 i8 p6 p7 p8 p9 q))
end
/-- the law's own text in the heap -/
structure LwT (K : PySem.W.Frag) (mg : Str → Option Value) where
  (fC fM fN fTk fFi fTo fLaw : Addr)
  (fdC fdM fdN fdTk fdFi fdTo fdLaw : FuncData)
structure LwOk {K : PySem.W.Frag} {mg : Str → Option Value} {base : Heap} (t : TrT K mg base) (v : LwT K mg) : Prop where
  tr : TrOk t
  bl : BL mg
  fnC : Fun K "_law_cell_at" "_law_cell_at" sCellAt v.fC v.fdC
  bC : Binds K v.fdC ["_law_script", "_law_k"] []
  mC : mg "_law_cell_at" = some (.ref v.fC)
  fnM : Fun K "_law_mixed" "_law_mixed" sMixed v.fM v.fdM
  bM : Binds K v.fdM ["_law_cell", "_law_k"] []
  mM : mg "_law_mixed" = some (.ref v.fM)
  fnN : Fun K "_law_no_kind" "_law_no_kind" sNoKind v.fN v.fdN
  bN : Binds K v.fdN ["_law_word"] []
  mN : mg "_law_no_kind" = some (.ref v.fN)
  fnT : Fun K "_law_taken" "_law_taken" sTaken v.fTk v.fdTk
  bT : Binds K v.fdTk ["_law_tray", "_law_name"] []
  mT : mg "_law_taken" = some (.ref v.fTk)
  fnF : Fun K "_law_first" "_law_first" sFirst v.fFi v.fdFi
  bF : Binds K v.fdFi ["_law_rows", "_law_name"] []
  mF : mg "_law_first" = some (.ref v.fFi)
  fnO : Fun K "_law_told" "_law_told" sTold v.fTo v.fdTo
  bO : Binds K v.fdTo ["_law_tray", "_law_rows", "_law_kind"] []
  mO : mg "_law_told" = some (.ref v.fTo)
  fnLaw : Fun K "law" "law" sLaw v.fLaw v.fdLaw
section
variable {P : Program} {w : World} {K : PySem.W.Frag} {mg : Str → Option Value} {base : Heap} {t : TrT K mg base} {v : LwT K mg}
def spLaw (t : TrT K mg base) : Sp := fun vs H Q _ => ∃ (a : Addr) (ns : List Int), vs = [.ref a] ∧ SqL K H a (ns.map V.int) ∧ ns.length ≤ 63 ∧ LamAt t.PT LP LQ H ∧ ∀ H', Q (.bl true) H'
theorem scLaw : FnScope ["_law_script", "_law_kind", "_law_others", "_law_tray", "_law_rows", "_law_k", "_law_draw", "_law_name", "_law_at", "_law_due"] ["_law_script"] (defScope sLaw) := ⟨rfl, rfl, rfl, by decide +kernel, rfl, by decide +kernel, by decide +kernel⟩
@[irreducible] def sOthers : Stmt := (defBody sLaw).getD 1 (.Pass ⟨0, 0, 0, 0⟩)
theorem body_law : defBody sLaw = (defBody sLaw).headD (.Pass ⟨0, 0, 0, 0⟩) :: sOthers :: (defBody sLaw).drop 2 := by unfold sOthers; rfl
theorem ps_others {X : Cx} (hN : X.N.Nodup) (hi : X.N[2]? = some ("_law_others" : Str)) (hx : Loc X.env.scope ("_law_others" : Str)) (hf : X.fn ("_law_others" : Str) = true ∨ X.env.scope.names.lookup ("_law_others" : Str) = some .local := by first | exact .inl rfl | exact .inr rfl | assumption) :
    PS X sOthers (tAsg (tLst (tCons (tC (.str "")) (tCons (tC (.str "rows")) (tCons (tC (.str "Row")) (tCons (tC (.str "row ")) (tCons (tC .non) (tCons (tLst (tCons (tC (.str "row")) tNil)) (tCons (tLst tNil) (tCons (tTup (tCons (tC (.str "none")) tNil)) tNil))))))))) (gName 2)) := by
  unfold sOthers
  exact @ps_set X _ 2 _ _ _ _ hN hi hx (@pe_others X _ _ _ _ _ _ _ _ _ _ _ _ _ _ _ _ _ _ _ _ _ _ _ _ _) rfl hf
theorem ok_law (T : LwOk t v) : FnOk P w K mg base CX0 5 v.fLaw v.fdLaw ["_law_script"] (spLaw t) := by
  have GC : FnOk P w K mg base CX0 1 v.fC v.fdC ["_law_script", "_law_k"] (spCell K) := ok_cell T.fnC T.tr.B.len
  have GM : FnOk P w K mg base CX0 1 v.fM v.fdM ["_law_cell", "_law_k"] spMix := ok_mix T.fnM
  have GN : FnOk P w K mg base CX0 4 v.fN v.fdN ["_law_word"] spNoKind := ok_NoKind T.fnN T.tr
  have GT : FnOk P w K mg base CX0 4 v.fTk v.fdTk ["_law_tray", "_law_name"] (spTaken t) := ok_Taken T.fnT T.tr
  have GF : FnOk P w K mg base CX0 1 v.fFi v.fdFi ["_law_rows", "_law_name"] spFirst := ok_First T.fnF T.tr
  have GO : FnOk P w K mg base CX0 3 v.fTo v.fdTo ["_law_tray", "_law_rows", "_law_kind"] (spTold t) := ok_Told T.fnO T.tr T.bl
  have GA : FnOk P w K mg base CX0 1 t.fA t.fdA ["self", "name", "number", "deed"] (spAdd t.C) := ok_TAdd T.tr.FA T.tr.cT
  have GY : FnOk P w K mg base (CXE P w) 3 t.fO t.fdO ["kind"] (spTrayOf t.C t.PT t.cK) := ok_TrayOf T.tr.FO T.tr.B T.tr.cT T.tr.M T.tr.FI T.tr.bI T.tr.mT T.tr.mN T.tr.mK T.tr.hK T.tr.xK.xc T.tr.mgK
  refine T.fnLaw.ok scLaw (fun vs H Q E h => ?_) (fun cdv A outer s H vs Q E hr h => ?_)
  · obtain ⟨a, ns, rfl, _⟩ := h
    rfl
  · obtain ⟨a, ns, rfl, hS, hlen, hlam, k⟩ := h
    have hr1 := hr.mono (j := 1) (by decide)
    have hr3 := hr.mono (j := 3) (by decide)
    have hu := hr.units
    rw [body_law]
    refine ⟨_, pss_cons (ps_set (i := 1) scLaw.nd rfl (Or.inl rfl) (pe_ix ix_list (pe_lst (pa_cons pe_str (pa_cons pe_str (pa_cons pe_str pa_nil)))) (pe_op op_mod (pe_call GC hr1 rfl T.mC T.fnC.kp T.bC .nil pass0 (pa_cons (pv 0) (pa_cons pe_int pa_nil))) pe_int) (fun _ _ => rfl)))
      (pss_cons (ps_others scLaw.nd rfl (Or.inl rfl))
      (pss_cons (ps_if (pt_not (pt_val (pe_call GN hr rfl T.mN T.fnN.kp T.bN .nil pass0 (pa_cons (pe_ix ix_list (pv 2) (pe_op op_mod (pe_op op_fdiv (pe_call GC hr1 rfl T.mC T.fnC.kp T.bC .nil pass0 (pa_cons (pv 0) (pa_cons pe_int pa_nil))) pe_int) pe_int) (fun _ _ => rfl)) pa_nil)))) (pss_one (ps_ret pe_bl)) pss_nil)
      (pss_cons (ps_set (i := 3) scLaw.nd rfl (Or.inl rfl) (pe_call GY hr3 rfl T.tr.mO T.tr.FO.kp T.tr.bO .nil passE (pa_cons (pv 1) pa_nil)))
      (pss_cons (ps_set (i := 4) scLaw.nd rfl (Or.inl rfl) (pe_lst pa_nil))
      (pss_cons (ps_for PassesOwn.never rfl (pi_range2 rfl T.tr.B.range (pa_cons pe_int (pa_cons (pe_callB (call_min2 rfl) rfl T.tr.B.min boot_min (pa_cons (pe_callB call_len_seq rfl T.tr.B.len PySem.boot_len (pa_cons (pv 0) pa_nil)) (pa_cons pe_int pa_nil))) pa_nil))) (pg_name (i := 5) scLaw.nd rfl (Or.inl rfl))
        (pss_cons (ps_set (i := 6) scLaw.nd rfl (Or.inl rfl) (pe_call GM hr1 rfl T.mM T.fnM.kp T.bM .nil pass0 (pa_cons (pe_ix ix_list (pv 0) (pv 5) (fun _ _ => rfl)) (pa_cons (pv 5) pa_nil))))
        (pss_cons (ps_set (i := 7) scLaw.nd rfl (Or.inl rfl) (pe_op op_mod (pe_op op_fdiv (pv 6) pe_int) pe_int))
        (pss_cons (ps_if (pt_cmpR op_eq (pe_op op_mod (pv 6) pe_int) pe_int (nomark _))
            (pss_cons (ps_expr (pe_meth (pv 3) T.tr.cT.cl T.tr.mA GA hr1 T.tr.bA .nil pass0 (pa_cons (pv 7) (pa_cons (pe_op op_mod (pe_ix ix_list (pv 0) (pv 5) (fun _ _ => rfl)) (pe_op op_pow pe_int pe_int)) (pa_cons (pv 5) pa_nil)))))
            (pss_one (ps_expr (pe_bm PySem.F.plainAttrs_list PySem.F.slot_list_append PySem.F.type_list_append mt_append (pv 4) (pa_cons (pe_tup (pa_cons (pv 7) (pa_cons (pe_op op_mod (pe_ix ix_list (pv 0) (pv 5) (fun _ _ => rfl)) (pe_op op_pow pe_int pe_int)) (pa_cons (pv 5) pa_nil)))) pa_nil)))))
            (pss_cons (ps_set (i := 8) scLaw.nd rfl (Or.inl rfl) (pe_call GF hr1 rfl T.mF T.fnF.kp T.bF .nil pass0 (pa_cons (pv 4) (pa_cons (pv 7) pa_nil))))
            (pss_cons (ps_set (i := 9) scLaw.nd rfl (Or.inl rfl) (pe_lst (pa_cons pe_bl (pa_cons pe_bl pa_nil))))
            (pss_cons (ps_if (PW.pt (pw_and (pt_cmpR op_notN (pv 8) pe_non (nomark _)) (pw_and1 (PW.pt (pw_or (pt_cmpR op_ne (pv 1) pe_str (nomark _)) (pw_or1 (pt_cmpR op_eq (pv 8) pe_int (nomark _))))))))
                (pss_cons (ps_set (i := 9) scLaw.nd rfl (Or.inl rfl) (pe_ix ix_list (pv 4) (pv 8) (fun _ _ => rfl)))
                (pss_one (ps_set (i := 4) scLaw.nd rfl (Or.inl rfl) (pe_op op_cat (pe_slice sl_list (pv 4) po_none (po_some (pv 8))) (pe_slice sl_list (pv 4) (po_some (pe_op op_add (pv 8) pe_int)) po_none))))) pss_nil)
            (pss_one (ps_if (pt_cmpR (op_neD hu) (pe_call GT hr rfl T.mT T.fnT.kp T.bT .nil pass0 (pa_cons (pv 3) (pa_cons (pv 7) pa_nil))) (pv 9) (nomark _)) (pss_one (ps_ret pe_bl)) pss_nil))))))
        (pss_one (ps_if (pt_not (pt_val (pe_call GO hr3 rfl T.mO T.fnO.kp T.bO .nil pass0 (pa_cons (pv 3) (pa_cons (pv 4) (pa_cons (pv 1) pa_nil)))))) (pss_one (ps_ret pe_bl)) pss_nil))))))
      (pss_one (ps_ret pe_bl))))))), ?_⟩
    obtain ⟨kd, ek, hkd⟩ := three (cellM ns 0)
    refine ⟨(by show 3 ≤ sizeLine; decide), fun q0 nq0 => ?_⟩
    have s0 := same_new (o := .lst [.str "row", .str "name", .str "none"]) (Same.refl H) nq0
    refine ⟨_, rfl, a, ns, 0, rfl, s0.seq hS, by decide, _, _, rfl, rfl, (by show (0 : Int) < 3; decide), q0, _, _, .str kd, rfl, rfl, SqL.of upd_same, ek, ?_⟩
    refine ⟨(by show 1 ≤ sizeLine; decide), fun l1 n1 => ⟨by decide, fun l2 n2 => ⟨(by show 1 ≤ sizeLine; decide), fun t1 n3 => ⟨(by show 8 ≤ sizeLine; decide), fun lo n4 => ?_⟩⟩⟩⟩
    have s1 := same_new (o := .lst [.str "row"]) s0 n1
    have s2 := same_new (o := .lst []) s1 n2
    have s3 := same_new (o := .tup [.str "none"]) s2 n3
    have s4 := same_new (o := .lst [.str "", .str "rows", .str "Row", .str "row ", .non, .ref l1, .ref l2, .ref t1]) s3 n4
    have g1 : (upd (upd (upd (upd (upd H q0 (.lst [.str "row", .str "name", .str "none"])) l1 (.lst [.str "row"])) l2 (.lst [])) t1 (.tup [.str "none"])) lo (.lst [.str "", .str "rows", .str "Row", .str "row ", .non, .ref l1, .ref l2, .ref t1])) l1 = some (.lst [.str "row"]) := same_new (same_new (same_new (Same.refl _) n2) n3) n4 l1 _ upd_same
    have g2 : (upd (upd (upd (upd (upd H q0 (.lst [.str "row", .str "name", .str "none"])) l1 (.lst [.str "row"])) l2 (.lst [])) t1 (.tup [.str "none"])) lo (.lst [.str "", .str "rows", .str "Row", .str "row ", .non, .ref l1, .ref l2, .ref t1])) l2 = some (.lst []) := same_new (same_new (Same.refl _) n3) n4 l2 _ upd_same
    have g3 : (upd (upd (upd (upd (upd H q0 (.lst [.str "row", .str "name", .str "none"])) l1 (.lst [.str "row"])) l2 (.lst [])) t1 (.tup [.str "none"])) lo (.lst [.str "", .str "rows", .str "Row", .str "row ", .non, .ref l1, .ref l2, .ref t1])) t1 = some (.tup [.str "none"]) := same_new (Same.refl _) n4 t1 _ upd_same
    have g4 : (upd (upd (upd (upd (upd H q0 (.lst [.str "row", .str "name", .str "none"])) l1 (.lst [.str "row"])) l2 (.lst [])) t1 (.tup [.str "none"])) lo (.lst [.str "", .str "rows", .str "Row", .str "row ", .non, .ref l1, .ref l2, .ref t1])) lo = some (.lst [.str "", .str "rows", .str "Row", .str "row ", .non, .ref l1, .ref l2, .ref t1]) := upd_same
    generalize (upd (upd (upd (upd (upd H q0 (.lst [.str "row", .str "name", .str "none"])) l1 (.lst [.str "row"])) l2 (.lst [])) t1 (.tup [.str "none"])) lo (.lst [.str "", .str "rows", .str "Row", .str "row ", .non, .ref l1, .ref l2, .ref t1])) = H4 at s4 g1 g2 g3 g4
    obtain ⟨ov, eo, ⟨T, hT⟩, hNo⟩ := eight (Pv := fun v => (∃ T, tyName H4 v = some T) ∧ NoK v) (xs := [.str "", .str "rows", .str "Row", .str "row ", .non, .ref l1, .ref l2, .ref t1]) rfl (fun v hv => by
      simp only [List.mem_cons, List.mem_nil_iff, or_false] at hv
      rcases hv with rfl | rfl | rfl | rfl | rfl | rfl | rfl | rfl
      · exact ⟨⟨_, rfl⟩, by unfold NoK; decide +kernel⟩
      · exact ⟨⟨_, rfl⟩, by unfold NoK; decide +kernel⟩
      · exact ⟨⟨_, rfl⟩, by unfold NoK; decide +kernel⟩
      · exact ⟨⟨_, rfl⟩, by unfold NoK; decide +kernel⟩
      · exact ⟨⟨_, rfl⟩, by unfold NoK; decide +kernel⟩
      · exact ⟨⟨"list", by unfold tyName; simp only [g1]⟩, fun z => by rcases z with z | z | z <;> cases z⟩
      · exact ⟨⟨"list", by unfold tyName; simp only [g2]⟩, fun z => by rcases z with z | z | z <;> cases z⟩
      · exact ⟨⟨"tuple", by unfold tyName; simp only [g3]⟩, fun z => by rcases z with z | z | z <;> cases z⟩) (cellM ns 0)
    refine ⟨_, rfl, _, rfl, a, ns, 0, rfl, s4.seq hS, by decide, _, _, rfl, rfl, ⟨by decide, by decide⟩, _, _, rfl, rfl, (by show (0 : Int) < 8; decide), lo, _, _, ov, rfl, rfl, SqL.of g4, eo, ov, T, rfl, hT, hNo, fun H5 s5 => ?_⟩
    refine ⟨_, rfl, iteF ?_⟩
    refine ⟨_, rfl, .str kd, _, rfl, rfl, fun _ kd' H6 x q qr ekd T6 k6 f6 => ?_, fun z => absurd hkd z⟩
    have ekd' : kd = kd' := strE ekd
    subst ekd'
    have s5' : Same H H5 := s4.trans s5
    have k6' : KeepF [] H H6 := fun b o _ _ e => k6 b o (by simp) (s5' b o e)
    have fx : ∀ b ∈ x :: q :: qr, H b = none := fun b hb => s5'.free (f6 b hb)
    have lam6 : LamAt t.PT LP LQ H6 := lamAt_keep (F := []) (lamAt_same hlam s5') (fun b o h e => k6 b o h e) fun b hb => nomatch hb
    refine ⟨by decide, fun r nr => ?_⟩
    have s7 : Same H6 (upd H6 r (.lst [])) := same_new (Same.refl _) nr
    have T7 : TrayAt (upd H6 r (.lst [])) x t.C kd 0 [] q qr := T6.keep0 (KeepF.of s7)
    have nr' : r ∉ x :: q :: qr := fun z => by
      obtain ⟨o, e⟩ := T6.there r z
      rw [e] at nr; cases nr
    have nrH : H r = none := by
      cases e : H r with
      | none => rfl
      | some o =>
        have := k6 r o (by simp) (s5' r o e)
        rw [this] at nr; cases nr
    have k7 : KeepF [] H (upd H6 r (.lst [])) := k6'.trans (KeepF.of s7)
    have lam7 : LamAt t.PT LP LQ (upd H6 r (.lst [])) := lamAt_same lam6 s7
    have R7 : RowsAt (upd H6 r (.lst [])) r [] := ⟨[], upd_same, .nil⟩
    generalize upd H6 r (.lst []) = H7 at k7 lam7 R7 T7
    have hlen2 : (if (41 : Int) < ((ns.map V.int).length : Int) then (41 : Int) else ((ns.map V.int).length : Int)) ≤ 41 ∧ 0 ≤ (if (41 : Int) < ((ns.map V.int).length : Int) then (41 : Int) else ((ns.map V.int).length : Int)) ∧ (if (41 : Int) < ((ns.map V.int).length : Int) then (41 : Int) else ((ns.map V.int).length : Int)) ≤ ns.length := by
      rw [List.length_map]
      split <;> omega
    refine ⟨_, rfl, a, _, rfl, .inl (sqL_keep k7 hS), _, _, rfl, 1, _, rfl, ⟨by decide, by decide, by omega, by omega⟩, ?_⟩
    generalize hm : (if (41 : Int) < ((ns.map V.int).length : Int) then (41 : Int) else ((ns.map V.int).length : Int)) = m at hlen2
    obtain ⟨m1, m2, m3⟩ := hlen2
    refine for_range (n := (m - 1).toNat) (fun i σ H' => ∃ r tn es kk dr nm at' du, σ = [some (.ref a), some (.str kd), some (.ref lo), some (.ref x), some (.ref r), kk, dr, nm, at', du] ∧ KeepF [] H H' ∧ NewR H r ∧ r ∉ x :: q :: qr ∧ TrayAt H' x t.C kd tn es q qr ∧ RowsAt H' r es ∧ LamAt t.PT LP LQ H' ∧ es.length ≤ i)
      ⟨r, 0, [], none, none, none, none, none, rfl, k7, fun o e => (by rw [nrH] at e; cases e), nr', T7, R7, lam7, Nat.le_refl _⟩ ?_ ?_
    · rintro i σ H1 hi ⟨r, tn, es, kk, dr, nm, at', du, rfl, k1, nrH, nr', T1, R1, lam1, hle⟩
      have hlt : 1 + i < ns.length := by omega
      have hi40 : i < 40 := by omega
      obtain ⟨c, hc⟩ : ∃ c, ns[1 + i]? = some c := ⟨_, List.getElem?_eq_getElem hlt⟩
      have hat : atI (ns.map V.int) (1 + (i : Int)) = some (.int c) := by
        have e : (1 + (i : Int)) = ((1 + i : Nat) : Int) := by omega
        rw [e]
        exact atI_nat (by rw [List.getElem?_map, hc]; rfl)
      refine ⟨_, rfl, _, rfl, a, _, _, .int c, rfl, rfl, sqL_keep k1 hS, hat, _, rfl, c, 1 + (i : Int), rfl, ?_⟩
      obtain ⟨d0, _⟩ := mixedM_b c (1 + (i : Int))
      generalize mixedM c (1 + (i : Int)) = d at d0
      refine ⟨_, rfl, _, _, rfl, rfl, ⟨by decide, by decide⟩, _, _, rfl, rfl, (by show (0 : Int) < 5; decide), ?_⟩
      have hn0 : 0 ≤ d / 8 % 5 := Int.emod_nonneg _ (by decide)
      have hn5 : d / 8 % 5 < 5 := Int.emod_lt_of_pos _ (by decide)
      refine joinS (A := fun _ _ r' H' => ∃ tn' es', KeepF [] H H' ∧ NewR H r' ∧ r' ∉ x :: q :: qr ∧ TrayAt H' x t.C kd tn' es' q qr ∧ RowsAt H' r' es' ∧ LamAt t.PT LP LQ H' ∧ es'.length ≤ i + 1) (fun at' du r H4 => tIfS (tNot (tB (tCall (spTold t) [] E0 (tCons (tVar 3) (tCons (tVar 4) (tCons (tVar 1) tNil)))))) (tRet (tC (V.bl false))) tNext ?dS [some (.ref a), some (.str kd), some (.ref lo), some (.ref x), some (.ref r), some (.int (1 + (i : Int))), some (.int d), some (.int (d / 8 % 5)), at', du] H4) (fun rest => ?goS) ?laS
      case goS =>
        refine ⟨_, rfl, _, _, rfl, rfl, (by show (0 : Int) < 2; decide), rfl, _, rfl, iteD (fun _ => ?_) (fun _ => ?_)⟩
        · obtain ⟨dx, fs, ea, _, _, _, em, _⟩ := id T1.obj
          have p60 : (0 : Int) < 10 ^ (60 : Int).toNat := Int.pow_pos (by decide)
          refine ⟨_, rfl, x, dx, fs, rfl, ea, em "add" (by decide +kernel), _, rfl, _, rfl, _, rfl, a, _, _, .int c, rfl, rfl, sqL_keep k1 hS, hat, _, _, rfl, rfl, ⟨by decide, by decide, by decide⟩, _, _, rfl, rfl, p60, _, rfl, ?_⟩
          refine ⟨x, d / 8 % 5, _, 1 + (i : Int), kd, tn, es, q, qr, rfl, T1, hn0, by omega, by omega, fun H2 T2 k2 => ?_⟩
          have k2' : KeepF [] H H2 := fun b o _ n e => k2 b o (fun z => by rw [fx b z] at e; cases e) (k1 b o (by simp) n e)
          have R2 : RowsAt H2 r es := R1.keep (fun o e => k2 r o nr' e) fun b xs e => k2 b _ (fun z => by rcases T1.kinds b z _ e with ⟨_, _, _, z⟩ | ⟨_, z⟩ <;> cases z) e
          have lam2 : LamAt t.PT LP LQ H2 := lamAt_keep (F := x :: q :: qr) lam1 k2 T1.kinds
          obtain ⟨us, hr2, rp2⟩ := id R2
          have lu := Paired.length rp2
          refine ⟨_, rfl, .inl ⟨rfl, _, SqL.of hr2⟩, _, rfl, _, rfl, _, rfl, a, _, _, .int c, rfl, rfl, sqL_keep k2' hS, hat, _, _, rfl, rfl, ⟨by decide, by decide, by decide⟩, _, _, rfl, rfl, p60, _, rfl, by show 3 ≤ sizeLine; decide, fun b nb => ?_⟩
          have s3 : Same H2 (upd H2 b (.tup [.int (d / 8 % 5), .int (c % 10 ^ (60 : Int).toNat), .int (1 + (i : Int))])) := same_new (Same.refl _) nb
          have hb3 : upd H2 b (.tup [.int (d / 8 % 5), .int (c % 10 ^ (60 : Int).toNat), .int (1 + (i : Int))]) b = some (.tup [.int (d / 8 % 5), .int (c % 10 ^ (60 : Int).toNat), .int (1 + (i : Int))]) := upd_same
          obtain ⟨H3, e3⟩ : ∃ H3, H3 = upd H2 b (.tup [.int (d / 8 % 5), .int (c % 10 ^ (60 : Int).toNat), .int (1 + (i : Int))]) := ⟨_, rfl⟩
          rw [← e3] at s3 hb3
          rw [← e3]
          have hr3 := s3 _ _ hr2
          refine ⟨r, us, _, rfl, rfl, hr3, by rw [sizeLine_eq]; omega, ?_⟩
          have hr4 : upd H3 r (.lst (us ++ [.ref b])) r = some (.lst (us ++ [.ref b])) := upd_same
          have ne4 : ∀ b', b' ≠ r → upd H3 r (.lst (us ++ [.ref b])) b' = H3 b' := fun b' h => upd_ne h
          have lam4 : LamAt t.PT LP LQ (upd H3 r (.lst (us ++ [.ref b]))) := lamAt_lst (lamAt_same lam2 s3) hr3
          obtain ⟨H4, e4⟩ : ∃ H4, H4 = upd H3 r (.lst (us ++ [.ref b])) := ⟨_, rfl⟩
          rw [← e4] at hr4 ne4 lam4
          rw [← e4]
          have tup4 : ∀ b' xs, H2 b' = some (.tup xs) → H4 b' = some (.tup xs) := fun b' xs e => by
            rw [ne4 b' (fun z => by rw [z, hr2] at e; cases e)]
            exact s3 _ _ e
          dsimp only
          clear e4 e3
          refine rest at' du r H4 ⟨tn + 1, es ++ [⟨tn, d / 8 % 5, c % 10 ^ (60 : Int).toNat, 1 + (i : Int)⟩], fun b' o _ n e => ?_, nrH, nr', T2.keep (fun b' hb' o e => ?_) tup4, ⟨us ++ [.ref b], hr4, paired_app (pairedI (fun _ _ z => z.keep tup4) rp2) ⟨b, rfl, ?_⟩⟩, lam4, by rw [List.length_append]; show es.length + 1 ≤ i + 1; omega⟩
          · rw [ne4 b' (fun z => by obtain ⟨ps, y⟩ := nrH o (z ▸ e); exact n ps y)]
            exact s3 _ _ (k2' b' o (by simp) n e)
          · rw [ne4 b' (fun z => nr' (z ▸ hb'))]
            exact s3 _ _ e
          · rw [ne4 b (fun z => by rw [z, hr2] at nb; cases nb)]
            exact hb3
        · refine ⟨_, rfl, _, rfl, r, d / 8 % 5, es, rfl, R1, by omega, ?_⟩
          refine ⟨by show 2 ≤ sizeLine; decide, fun ld nld => ?_⟩
          have s2 : Same H1 (upd H1 ld (.lst [.bl true, .bl true])) := same_new (Same.refl _) nld
          have hd2 : upd H1 ld (.lst [.bl true, .bl true]) ld = some (.lst [.bl true, .bl true]) := upd_same
          obtain ⟨H2, e2⟩ : ∃ H2, H2 = upd H1 ld (.lst [.bl true, .bl true]) := ⟨_, rfl⟩
          rw [← e2] at s2 hd2
          rw [← e2]
          have k2 : KeepF [] H H2 := k1.trans (KeepF.of s2)
          have T2 := T1.keep0 (KeepF.of s2)
          have R2 := R1.keep0 (KeepF.of s2)
          have lam2 := lamAt_same lam1 s2
          refine joinR (A := fun r' u H3 => KeepF [] H H3 ∧ NewR H r' ∧ r' ∉ x :: q :: qr ∧ TrayAt H3 x t.C kd tn es q qr ∧ LamAt t.PT LP LQ H3 ∧
            ((d / 8 % 5 ∈ frontsM kd es ∧ RowsAt H3 r' (dropM es (d / 8 % 5)) ∧ ∃ p e, u = .ref p ∧ H3 p = some (.tup [.int e.n, .int e.num, .int e.d]) ∧ ∀ e', (qOf es (d / 8 % 5).toNat).head? = some e' → e' = e) ∨
             (d / 8 % 5 ∉ frontsM kd es ∧ RowsAt H3 r' es ∧ ∃ l, u = .ref l ∧ H3 l = some (.lst [.bl true, .bl true]))))
            (fun r' u H3 => tIfS (tTest (tOp (rEqD K true) (tCall (spTaken t) [] E0 (tCons (tVar 3) (tCons (tVar 7) tNil))) (tVar 9))) (tRet (tC (V.bl false))) tNext ?dR [some (.ref a), some (.str kd), some (.ref lo), some (.ref x), some (.ref r'), some (.int (1 + (i : Int))), some (.int d), some (.int (d / 8 % 5)), some (firstV es (d / 8 % 5)), some u] H3) (fun restR => ?goR) ?laR
          case goR =>
            refine ⟨_, rfl, rfl, _, rfl, ?_⟩
            rcases firstV_cases es (d / 8 % 5) with ⟨e0, hno⟩ | ⟨j, e, e0, he, hen, hno, hdrop⟩
            · refine iteE (by rw [e0]; rfl) (iteF ?_)
              exact restR r (.ref ld) H2 ⟨k2, nrH, nr', T2, lam2, .inr ⟨frontsNo T1.wf (.inl hno), R2, ld, rfl, hd2⟩⟩
            · refine iteU (by rw [e0]; rfl) ?_
              refine join0 (A := kd ≠ "row" ∨ j = 0) ?sS (fun suite => ?go0) ?la0
              case go0 =>
                refine ⟨_, rfl, rfl, _, rfl, ?_⟩
                by_cases hk : kd = "row"
                · refine iteE (by rw [hk]; rfl) ⟨_, rfl, by rw [e0]; rfl, _, rfl, iteD (fun z => ?_) (fun z => ?_)⟩
                  · have hj : j = 0 := by
                      rw [e0] at z
                      injection z with z
                      omega
                    exact suite (.inr hj)
                  · have hj : j ≠ 0 := fun y => z (by rw [e0, y]; rfl)
                    exact restR r (.ref ld) H2 ⟨k2, nrH, nr', T2, lam2, .inr ⟨frontsNo T1.wf (.inr ⟨hk, fun e' he' => hno 0 e' (by omega) he'⟩), R2, ld, rfl, hd2⟩⟩
                · refine iteU (by rw [decide_eq_false (fun z => hk (strE z))]; rfl) (iteT ?_)
                  exact suite (.inl hk)
              case la0 =>
                intro hj
                obtain ⟨us, hr2, rp2⟩ := id R2
                obtain ⟨p, hp, hpe⟩ : ∃ p, us[j]? = some (.ref p) ∧ H2 p = some (.tup [.int e.n, .int e.num, .int e.d]) := by
                  have lj : j < us.length := by
                    rw [Paired.length rp2]
                    exact (List.getElem?_eq_some_iff.mp he).1
                  obtain ⟨e'', he'', p, hv, hpv⟩ := paired_get' rp2 (List.getElem?_eq_getElem lj)
                  rw [he] at he''
                  injection he'' with q1
                  subst q1
                  exact ⟨p, by rw [List.getElem?_eq_getElem lj, hv], hpv⟩
                have lu := Paired.length rp2
                refine ⟨_, rfl, _, rfl, r, us, j, .ref p, rfl, e0, SqL.of hr2, atI_nat hp, ?_⟩
                refine ⟨_, rfl, _, rfl, j, e0, r, us, rfl, SqL.of hr2, fun pA nA => ?_⟩
                rw [cutA]
                have sA : Same H2 (upd H2 pA (.lst (us.take j))) := same_new (Same.refl _) nA
                refine ⟨_, rfl, _, rfl, (j : Int), 1, e0, rfl, _, rfl, r, us, rfl, SqL.of (sA _ _ hr2), fun pB nB => ?_⟩
                have eB : cutV us (some ((j : Int) + 1)) none = us.drop (j + 1) := cutB us (j + 1)
                rw [eB]
                have sB : Same (upd H2 pA (.lst (us.take j))) (upd (upd H2 pA (.lst (us.take j))) pB (.lst (us.drop (j + 1)))) := same_new (Same.refl _) nB
                refine ⟨pA, pB, _, _, rfl, rfl, sB _ _ upd_same, upd_same, ?_, fun pC nC => ?_⟩
                · rw [List.length_take, List.length_drop, sizeLine_eq]
                  omega
                have sC : Same H2 (upd (upd (upd H2 pA (.lst (us.take j))) pB (.lst (us.drop (j + 1)))) pC (.lst (us.take j ++ us.drop (j + 1)))) := same_new (sA.trans sB) nC
                have hC : upd (upd (upd H2 pA (.lst (us.take j))) pB (.lst (us.drop (j + 1)))) pC (.lst (us.take j ++ us.drop (j + 1))) pC = some (.lst (us.take j ++ us.drop (j + 1))) := upd_same
                have nCH : H2 pC = none := (sA.trans sB).free nC
                obtain ⟨H5, e5⟩ : ∃ H5, H5 = upd (upd (upd H2 pA (.lst (us.take j))) pB (.lst (us.drop (j + 1)))) pC (.lst (us.take j ++ us.drop (j + 1))) := ⟨_, rfl⟩
                rw [← e5] at sC hC
                rw [← e5]
                refine restR pC (.ref p) H5 ⟨k2.trans (KeepF.of sC), ?_, fun z => ?_, T2.keep0 (KeepF.of sC), lamAt_same lam2 sC, .inl ⟨frontsIn T1.wf he hen hj, ⟨_, hC, ?_⟩, p, e, rfl, sC _ _ hpe, fun e' he' => head_of hn0 he hen hno he'⟩⟩
                · intro o eH
                  refine Classical.byContradiction fun ht => ?_
                  rw [k2 pC o (by simp) (fun ps z => ht ⟨ps, z⟩) eH] at nCH
                  cases nCH
                · obtain ⟨o, eo⟩ := T2.there pC z
                  rw [eo] at nCH; cases nCH
                · rw [hdrop]
                  exact pairedI (fun _ _ z => z.keep fun b xs e => sC _ _ e) (paired_cat (paired_take j rp2) (paired_drop (j + 1) rp2))
          case laR =>
            rintro r3 u H3 ⟨k3, nr3, nr3', T3, lam3, hc3⟩
            refine ⟨_, rfl, _, rfl, x, d / 8 % 5, kd, tn, es, q, qr, rfl, T3, lam3, fun hin H4 e' st hh T4 k4 lam4 hst => ?_, fun hin H4 l k4 lam4 hl => ?_⟩
            · rcases hc3 with ⟨_, R3, p, e, rfl, hp3, hee⟩ | ⟨z, _⟩
              · have ee := hee e' hh
                subst ee
                have tup4 : ∀ b xs, H3 b = some (.tup xs) → H4 b = some (.tup xs) := fun b xs e => k4 b _ (fun z => by rcases T3.kinds b z _ e with ⟨_, _, _, z⟩ | ⟨_, z⟩ <;> cases z) (fun ps z => by cases z) e
                have R4 : RowsAt H4 r3 (dropM es (d / 8 % 5)) := by
                  obtain ⟨us, h1, _⟩ := id R3
                  exact R3.keep (fun o e => k4 r3 o nr3' (fun ps z => by rw [h1] at e; cases e; cases z) e) tup4
                refine ⟨_, rfl, neD_self (d := tripD e') (.tup (SqT.of hst) (.cons (.int _) (.cons (.int _) (.cons (.int _) .nil)))) (.tup (SqT.of (tup4 _ _ hp3)) (.cons (.int _) (.cons (.int _) (.cons (.int _) .nil)))) (shaped_trip e') ⟨_, rfl, iteF ?_⟩⟩
                refine rest _ _ r3 H4 ⟨tn, _, fun b o _ n e => ?_, nr3, nr3', T4, R4, lam4, ?_⟩
                · exact k4 b o (fun z => by rw [fx b z] at e; cases e) n (k3 b o (by simp) n e)
                · have : (dropM es (d / 8 % 5)).length ≤ es.length := (List.eraseP_sublist).length_le
                  omega
              · exact absurd hin z
            · rcases hc3 with ⟨z, _⟩ | ⟨_, R3, l', rfl, hl'⟩
              · exact absurd z hin
              · have hl4 : H4 l' = some (.lst [.bl true, .bl true]) := k4 l' _ (by simp) (fun ps z => by cases z) hl'
                refine ⟨_, rfl, neD_self (d := .list [.bool true, .bool true]) (.lst (SqL.of hl) (.cons (.bl _) (.cons (.bl _) .nil))) (.lst (SqL.of hl4) (.cons (.bl _) (.cons (.bl _) .nil))) (by decide) ⟨_, rfl, iteF ?_⟩⟩
                exact rest _ _ r3 H4 ⟨tn, es, k3.trans k4, nr3, nr3', T3.keep0 k4, R3.keep0 k4, lam4, by omega⟩
      case laS =>
        rintro at2 du2 r2 H2 ⟨tn2, es2, k2, nr2, nr2', T2, R2, lam2, hle2⟩
        refine ⟨_, rfl, _, rfl, _, rfl, x, r2, kd, tn2, es2, q, qr, rfl, T2, R2, lam2, by omega, fun H3 k3 lam3 => ⟨_, rfl, iteF ?_⟩⟩
        exact ⟨r2, tn2, es2, _, _, _, at2, du2, rfl, k2.trans k3, nr2, nr2', T2.keep0 k3, R2.keep0 k3, lam3, hle2⟩
    · rintro σ Hz ⟨_, _, _, _, _, _, _, _, rfl, _⟩
      exact k Hz
end
end TL


namespace TL
open PySem PySem.Spec PyProof.Rows PySem.SeqAt L2 L3
theorem tup_lit {K : PySem.W.Frag} {H : Hp} {a : Addr} {d : Option Addr} {its : Array Value} {n : Nat} {sl : Array (Option Value)} {xs : List V} {us : List Value} (h : K.lookup a = some ⟨.type "tuple", d, .seq its n, sl⟩) (e : its.toList = us) (hz : us.length ≤ sizeLine) (r : Vals xs us) : SqT K H a xs :=
  .inr ⟨_, its, n, h, rfl, rfl, by rw [← Array.length_toList, e]; exact hz, by rw [e]; exact r⟩
def spLawP (K : PySem.W.Frag) (PT : Addr) : Sp := fun vs H Q _ => ∃ (a : Addr) (ns : List Int), vs = [.ref a] ∧ SqL K H a (ns.map V.int) ∧ ns.length ≤ 63 ∧ LamAt PT LP LQ H ∧ ∀ H', Q (.bl true) H'
theorem all_mk {l : PySem.W.OpenLaw} {w : World} {K : PySem.W.Frag} {h : Heap} {mg : Str → Option Value} {fa cTray fW fI fA fLt fF qF fTk fE fLs fO fC fM fN fT fFi fTo fLaw xEr xMv xKd tKINDS : Addr} (X : K.In h) (G : h.Ns mainGlobals mg) (hfa : mg "law" = some (.ref fa))
    {odW odI odA odLt odF odTk odE odLs odO odC odM odN odT odFi odTo odLaw anW anI anA anLt anF anTk anE anLs anO anC anM anN anT anFi anTo anLaw : Option Addr} {slW slI slA slLt slF slTk slE slLs slO slC slM slN slT slFi slTo slLaw : Array (Option Value)} {ocW ocI ocA ocLt ocF ocTk ocE ocLs ocO ocC ocM ocN ocT ocFi ocTo ocLaw kVW kVI kVA kVLt kVF kVTk kVE kVLs kVO kVC kVM kVN kVT kVFi kVTo kVLaw dcW dcI dcA dcLt dcF dcTk dcE dcLs dcO dcC dcM dcN dcT dcFi dcTo dcLaw pmW pmI pmA pmLt pmF pmTk pmE pmLs pmO pmC pmM pmN pmT pmFi pmTo pmLaw ctW ctI ctA ctLt ctF ctTk ctE ctLs ctO ctC ctM ctN ctT ctFi ctTo ctLaw cdW cdI cdA cdLt cdTk cdE cdLs cdO cdC cdM cdN cdT cdFi cdTo cdLaw : Value} {t_NAMES : Tok} {tdKINDS : Option Addr} {tiKINDS : Array Value} {tnKINDS : Nat} {tsKINDS : Array (Option Value)} {tkKINDS0 tkKINDS1 tkKINDS2 : Tok} {PT : Addr}
    (aCTray : PySem.W.nsIn K mainGlobals "Tray" = some (some (.ref cTray)))
    (aW : PySem.W.nsIn K mainGlobals "is_whole" = some (some (.ref fW)))
    (lW : K.lookup fW = some ⟨ocW, odW, .func (PySem.W.fnOf "is_whole" "is_whole" (defArgs sWholeT) (defBody sWholeT) (defScope sWholeT) .none kVW dcW pmW anW cdW ctW), slW⟩)
    (c_W : PySem.W.codeIn K cdW "is_whole" = true)
    (kW : PySem.W.keepIn K (.ref fW) = true)
    (aI : PySem.W.findIn K (.ref cTray) "__init__" = some (some (.ref fI)))
    (lI : K.lookup fI = some ⟨ocI, odI, .func (PySem.W.fnOf "__init__" "Tray.__init__" (defArgs sTI) (defBody sTI) (defScope sTI) .none kVI dcI pmI anI cdI ctI), slI⟩)
    (c_I : PySem.W.codeIn K cdI "Tray.__init__" = true)
    (kI : PySem.W.keepIn K (.ref fI) = true)
    (iI : PySem.W.isFn K (.ref fI) = true)
    (aA : PySem.W.findIn K (.ref cTray) "add" = some (some (.ref fA)))
    (lA : K.lookup fA = some ⟨ocA, odA, .func (PySem.W.fnOf "add" "Tray.add" (defArgs sTAdd) (defBody sTAdd) (defScope sTAdd) .none kVA dcA pmA anA cdA ctA), slA⟩)
    (c_A : PySem.W.codeIn K cdA "Tray.add" = true)
    (kA : PySem.W.keepIn K (.ref fA) = true)
    (iA : PySem.W.isFn K (.ref fA) = true)
    (aLt : PySem.W.findIn K (.ref cTray) "latest" = some (some (.ref fLt)))
    (lLt : K.lookup fLt = some ⟨ocLt, odLt, .func (PySem.W.fnOf "latest" "Tray.latest" (defArgs sTLatest) (defBody sTLatest) (defScope sTLatest) .none kVLt dcLt pmLt anLt cdLt ctLt), slLt⟩)
    (c_Lt : PySem.W.codeIn K cdLt "Tray.latest" = true)
    (kLt : PySem.W.keepIn K (.ref fLt) = true)
    (iLt : PySem.W.isFn K (.ref fLt) = true)
    (aF : PySem.W.findIn K (.ref cTray) "fronts" = some (some (.ref fF)))
    (lF : K.lookup fF = some ⟨ocF, odF, .func (PySem.W.fnOf "fronts" "Tray.fronts" (defArgs sTFronts) (defBody sTFronts) (defScope sTFronts) .none kVF dcF pmF anF (.ref qF) ctF), slF⟩)
    (c_F : PySem.W.codeIn K (.ref qF) "Tray.fronts" = true)
    (hdF : PySem.W.codeHdIn K qF PT = true)
    (kF : PySem.W.keepIn K (.ref fF) = true)
    (iF : PySem.W.isFn K (.ref fF) = true)
    (aTk : PySem.W.findIn K (.ref cTray) "take" = some (some (.ref fTk)))
    (lTk : K.lookup fTk = some ⟨ocTk, odTk, .func (PySem.W.fnOf "take" "Tray.take" (defArgs sTTake) (defBody sTTake) (defScope sTTake) .none kVTk dcTk pmTk anTk cdTk ctTk), slTk⟩)
    (c_Tk : PySem.W.codeIn K cdTk "Tray.take" = true)
    (kTk : PySem.W.keepIn K (.ref fTk) = true)
    (iTk : PySem.W.isFn K (.ref fTk) = true)
    (aE : PySem.W.findIn K (.ref cTray) "is_empty" = some (some (.ref fE)))
    (lE : K.lookup fE = some ⟨ocE, odE, .func (PySem.W.fnOf "is_empty" "Tray.is_empty" (defArgs sTEmpty) (defBody sTEmpty) (defScope sTEmpty) .none kVE dcE pmE anE cdE ctE), slE⟩)
    (c_E : PySem.W.codeIn K cdE "Tray.is_empty" = true)
    (kE : PySem.W.keepIn K (.ref fE) = true)
    (iE : PySem.W.isFn K (.ref fE) = true)
    (aLs : PySem.W.findIn K (.ref cTray) "listed" = some (some (.ref fLs)))
    (lLs : K.lookup fLs = some ⟨ocLs, odLs, .func (PySem.W.fnOf "listed" "Tray.listed" (defArgs sTListed) (defBody sTListed) (defScope sTListed) .none kVLs dcLs pmLs anLs cdLs ctLs), slLs⟩)
    (c_Ls : PySem.W.codeIn K cdLs "Tray.listed" = true)
    (kLs : PySem.W.keepIn K (.ref fLs) = true)
    (iLs : PySem.W.isFn K (.ref fLs) = true)
    (aO : PySem.W.nsIn K mainGlobals "tray_of" = some (some (.ref fO)))
    (lO : K.lookup fO = some ⟨ocO, odO, .func (PySem.W.fnOf "tray_of" "tray_of" (defArgs sTrayOf) (defBody sTrayOf) (defScope sTrayOf) .none kVO dcO pmO anO cdO ctO), slO⟩)
    (c_O : PySem.W.codeIn K cdO "tray_of" = true)
    (kO : PySem.W.keepIn K (.ref fO) = true)
    (aC : PySem.W.nsIn K mainGlobals "_law_cell_at" = some (some (.ref fC)))
    (lC : K.lookup fC = some ⟨ocC, odC, .func (PySem.W.fnOf "_law_cell_at" "_law_cell_at" (defArgs sCellAt) (defBody sCellAt) (defScope sCellAt) .none kVC dcC pmC anC cdC ctC), slC⟩)
    (c_C : PySem.W.codeIn K cdC "_law_cell_at" = true)
    (kC : PySem.W.keepIn K (.ref fC) = true)
    (aM : PySem.W.nsIn K mainGlobals "_law_mixed" = some (some (.ref fM)))
    (lM : K.lookup fM = some ⟨ocM, odM, .func (PySem.W.fnOf "_law_mixed" "_law_mixed" (defArgs sMixed) (defBody sMixed) (defScope sMixed) .none kVM dcM pmM anM cdM ctM), slM⟩)
    (c_M : PySem.W.codeIn K cdM "_law_mixed" = true)
    (kM : PySem.W.keepIn K (.ref fM) = true)
    (aN : PySem.W.nsIn K mainGlobals "_law_no_kind" = some (some (.ref fN)))
    (lN : K.lookup fN = some ⟨ocN, odN, .func (PySem.W.fnOf "_law_no_kind" "_law_no_kind" (defArgs sNoKind) (defBody sNoKind) (defScope sNoKind) .none kVN dcN pmN anN cdN ctN), slN⟩)
    (c_N : PySem.W.codeIn K cdN "_law_no_kind" = true)
    (kN : PySem.W.keepIn K (.ref fN) = true)
    (aT : PySem.W.nsIn K mainGlobals "_law_taken" = some (some (.ref fT)))
    (lT : K.lookup fT = some ⟨ocT, odT, .func (PySem.W.fnOf "_law_taken" "_law_taken" (defArgs sTaken) (defBody sTaken) (defScope sTaken) .none kVT dcT pmT anT cdT ctT), slT⟩)
    (c_T : PySem.W.codeIn K cdT "_law_taken" = true)
    (kT : PySem.W.keepIn K (.ref fT) = true)
    (aFi : PySem.W.nsIn K mainGlobals "_law_first" = some (some (.ref fFi)))
    (lFi : K.lookup fFi = some ⟨ocFi, odFi, .func (PySem.W.fnOf "_law_first" "_law_first" (defArgs sFirst) (defBody sFirst) (defScope sFirst) .none kVFi dcFi pmFi anFi cdFi ctFi), slFi⟩)
    (c_Fi : PySem.W.codeIn K cdFi "_law_first" = true)
    (kFi : PySem.W.keepIn K (.ref fFi) = true)
    (aTo : PySem.W.nsIn K mainGlobals "_law_told" = some (some (.ref fTo)))
    (lTo : K.lookup fTo = some ⟨ocTo, odTo, .func (PySem.W.fnOf "_law_told" "_law_told" (defArgs sTold) (defBody sTold) (defScope sTold) .none kVTo dcTo pmTo anTo cdTo ctTo), slTo⟩)
    (c_To : PySem.W.codeIn K cdTo "_law_told" = true)
    (kTo : PySem.W.keepIn K (.ref fTo) = true)
    (aLaw : PySem.W.nsIn K mainGlobals "law" = some (some (.ref fLaw)))
    (lLaw : K.lookup fLaw = some ⟨ocLaw, odLaw, .func (PySem.W.fnOf "law" "law" (defArgs sLaw) (defBody sLaw) (defScope sLaw) .none kVLaw dcLaw pmLaw anLaw cdLaw ctLaw), slLaw⟩)
    (c_Law : PySem.W.codeIn K cdLaw "law" = true)
    (kLaw : PySem.W.keepIn K (.ref fLaw) = true)
    (pgTray : PySem.W.plainGet K cTray Str.empty = true)
    (hdTray : PySem.W.hasDictIn K cTray = true)
    (poTray : PySem.W.plainOver K cTray = true)
    (saTray : PySem.W.findIn K (.ref cTray) "__setattr__" = some (some (.builtin "object.__setattr__")))
    (mkTray : PySem.W.makesIn K cTray = true)
    (kcTray : PySem.W.keepIn K (.ref cTray) = true)
    (nTray_kind : PySem.W.findIn K (.ref cTray) "kind" = some none)
    (nTray_turn : PySem.W.findIn K (.ref cTray) "turn" = some none)
    (nTray_queues : PySem.W.findIn K (.ref cTray) "queues" = some none)
    (mTray_add : PySem.W.findIn K (.ref cTray) "add" = some (some (.ref fA)))
    (mTray_latest : PySem.W.findIn K (.ref cTray) "latest" = some (some (.ref fLt)))
    (mTray_fronts : PySem.W.findIn K (.ref cTray) "fronts" = some (some (.ref fF)))
    (mTray_take : PySem.W.findIn K (.ref cTray) "take" = some (some (.ref fTk)))
    (mTray_is_empty : PySem.W.findIn K (.ref cTray) "is_empty" = some (some (.ref fE)))
    (mTray_listed : PySem.W.findIn K (.ref cTray) "listed" = some (some (.ref fLs)))
    (inTray : PySem.W.findIn K (.ref cTray) "__init__" = some (some (.ref fI)))
    (z_isinstance : PySem.W.nsIn K mainGlobals "isinstance" = some none)
    (z_int : PySem.W.nsIn K mainGlobals "int" = some none)
    (z_bool : PySem.W.nsIn K mainGlobals "bool" = some none)
    (z_str : PySem.W.nsIn K mainGlobals "str" = some none)
    (z_len : PySem.W.nsIn K mainGlobals "len" = some none)
    (z_all : PySem.W.nsIn K mainGlobals "all" = some none)
    (z_range : PySem.W.nsIn K mainGlobals "range" = some none)
    (z_enumerate : PySem.W.nsIn K mainGlobals "enumerate" = some none)
    (z_min : PySem.W.nsIn K mainGlobals "min" = some none)
    (z_sorted : PySem.W.nsIn K mainGlobals "sorted" = some none)
    (z_set : PySem.W.nsIn K mainGlobals "set" = some none)
    (z_max : PySem.W.nsIn K mainGlobals "max" = some none)
    (z_ValueError : PySem.W.nsIn K mainGlobals "ValueError" = some none)
    (v_NAMES : PySem.W.nsIn K mainGlobals "NAMES" = some (some (.int 12 t_NAMES)))
    (xa_Er : PySem.W.nsIn K mainGlobals "TrayError" = some (some (.ref xEr)))
    (xa_Mv : PySem.W.nsIn K mainGlobals "NoMove" = some (some (.ref xMv)))
    (xa_Kd : PySem.W.nsIn K mainGlobals "NoKind" = some (some (.ref xKd)))
    (xe_Mv : PySem.W.excIn K xMv bmVE "ValueError.__new__" = true)
    (xk_Mv : PySem.W.keepIn K (.ref xMv) = true)
    (xs_Mv : PySem.W.kitCls K (.ref xMv) (.ref xMv) = some true)
    (xb_Mv : PySem.W.kitCls K (.ref xMv) (.type "BaseException") = some true)
    (xt_Mv : PySem.W.kitOne K (.ref xMv) (.ref xEr) = some true)
    (xv_Mv : PySem.W.kitOne K (.ref xMv) (.type "ValueError") = some true)
    (xe_Kd : PySem.W.excIn K xKd bmVE "ValueError.__new__" = true)
    (xk_Kd : PySem.W.keepIn K (.ref xKd) = true)
    (xs_Kd : PySem.W.kitCls K (.ref xKd) (.ref xKd) = some true)
    (xb_Kd : PySem.W.kitCls K (.ref xKd) (.type "BaseException") = some true)
    (xt_Kd : PySem.W.kitOne K (.ref xKd) (.ref xEr) = some true)
    (xv_Kd : PySem.W.kitOne K (.ref xKd) (.type "ValueError") = some true)
    (ta_KINDS : PySem.W.nsIn K mainGlobals "KINDS" = some (some (.ref tKINDS)))
    (tl_KINDS : K.lookup tKINDS = some ⟨.type "tuple", tdKINDS, .seq tiKINDS tnKINDS, tsKINDS⟩)
    (ti_KINDS : tiKINDS.toList = [.str "row" tkKINDS0, .str "name" tkKINDS1, .str "none" tkKINDS2])
    : ∃ fd : FuncData, (∀ (s : Shared) (v : Value), BindsTo s fd ⟨[v], []⟩ [("_law_script", v)]) ∧ ∀ base : Heap, K.In base → base.Ns mainGlobals mg → BmAt mg base → FnOk l.prog w K mg base CX0 5 fa fd ["_law_script"] (spLawP K PT) := by
  have e := hfa.symm.trans (PySem.W.mg_of X G aLaw)
  cases e
  have FW := fun_mk (st := sWholeT) lW c_W kW
  have bW := FW.binds (ps := ["thing"]) fun _ _ _ _ _ _ us hl => match us, hl with | [_], _ => rfl
  have gW := PySem.W.mg_of X G aW
  have FI := fun_mk (st := sTI) lI c_I kI
  have bI := FI.binds (ps := ["self", "kind"]) fun _ _ _ _ _ _ us hl => match us, hl with | [_, _], _ => rfl
  have FA := fun_mk (st := sTAdd) lA c_A kA
  have bA := FA.binds (ps := ["self", "name", "number", "deed"]) fun _ _ _ _ _ _ us hl => match us, hl with | [_, _, _, _], _ => rfl
  have FLt := fun_mk (st := sTLatest) lLt c_Lt kLt
  have bLt := FLt.binds (ps := ["self", "name"]) fun _ _ _ _ _ _ us hl => match us, hl with | [_, _], _ => rfl
  have FF := funC_mk (st := sTFronts) lF c_F kF
  have bF := FF.fun.binds (ps := ["self"]) fun _ _ _ _ _ _ us hl => match us, hl with | [_], _ => rfl
  have FTk := fun_mk (st := sTTake) lTk c_Tk kTk
  have bTk := FTk.binds (ps := ["self", "name"]) fun _ _ _ _ _ _ us hl => match us, hl with | [_, _], _ => rfl
  have FE := fun_mk (st := sTEmpty) lE c_E kE
  have bE := FE.binds (ps := ["self"]) fun _ _ _ _ _ _ us hl => match us, hl with | [_], _ => rfl
  have FLs := fun_mk (st := sTListed) lLs c_Ls kLs
  have bLs := FLs.binds (ps := ["self"]) fun _ _ _ _ _ _ us hl => match us, hl with | [_], _ => rfl
  have FO := fun_mk (st := sTrayOf) lO c_O kO
  have bO := FO.binds (ps := ["kind"]) fun _ _ _ _ _ _ us hl => match us, hl with | [_], _ => rfl
  have gO := PySem.W.mg_of X G aO
  have FC := fun_mk (st := sCellAt) lC c_C kC
  have bC := FC.binds (ps := ["_law_script", "_law_k"]) fun _ _ _ _ _ _ us hl => match us, hl with | [_, _], _ => rfl
  have gC := PySem.W.mg_of X G aC
  have FM := fun_mk (st := sMixed) lM c_M kM
  have bM := FM.binds (ps := ["_law_cell", "_law_k"]) fun _ _ _ _ _ _ us hl => match us, hl with | [_, _], _ => rfl
  have gM := PySem.W.mg_of X G aM
  have FN := fun_mk (st := sNoKind) lN c_N kN
  have bN := FN.binds (ps := ["_law_word"]) fun _ _ _ _ _ _ us hl => match us, hl with | [_], _ => rfl
  have gN := PySem.W.mg_of X G aN
  have FT := fun_mk (st := sTaken) lT c_T kT
  have bT := FT.binds (ps := ["_law_tray", "_law_name"]) fun _ _ _ _ _ _ us hl => match us, hl with | [_, _], _ => rfl
  have gT := PySem.W.mg_of X G aT
  have FFi := fun_mk (st := sFirst) lFi c_Fi kFi
  have bFi := FFi.binds (ps := ["_law_rows", "_law_name"]) fun _ _ _ _ _ _ us hl => match us, hl with | [_, _], _ => rfl
  have gFi := PySem.W.mg_of X G aFi
  have FTo := fun_mk (st := sTold) lTo c_To kTo
  have bTo := FTo.binds (ps := ["_law_tray", "_law_rows", "_law_kind"]) fun _ _ _ _ _ _ us hl => match us, hl with | [_, _, _], _ => rfl
  have gTo := PySem.W.mg_of X G aTo
  have FLaw := fun_mk (st := sLaw) lLaw c_Law kLaw
  have gLaw := PySem.W.mg_of X G aLaw
  have gCTray := PySem.W.mg_of X G aCTray
  have clTray : Cls K cTray := ⟨pgTray, hdTray, poTray, saTray⟩
  have MTray : Mk K cTray fI := ⟨mkTray, inTray, iI, kcTray⟩
  have meTray_add : Meth K cTray "add" fA := ⟨mTray_add, iA, kA⟩
  have meTray_latest : Meth K cTray "latest" fLt := ⟨mTray_latest, iLt, kLt⟩
  have meTray_fronts : Meth K cTray "fronts" fF := ⟨mTray_fronts, iF, kF⟩
  have meTray_take : Meth K cTray "take" fTk := ⟨mTray_take, iTk, kTk⟩
  have meTray_is_empty : Meth K cTray "is_empty" fE := ⟨mTray_is_empty, iE, kE⟩
  have meTray_listed : Meth K cTray "listed" fLs := ⟨mTray_listed, iLs, kLs⟩
  have zz_isinstance := PySem.W.mg_none_of X G z_isinstance
  have zz_int := PySem.W.mg_none_of X G z_int
  have zz_bool := PySem.W.mg_none_of X G z_bool
  have zz_str := PySem.W.mg_none_of X G z_str
  have zz_len := PySem.W.mg_none_of X G z_len
  have zz_all := PySem.W.mg_none_of X G z_all
  have zz_range := PySem.W.mg_none_of X G z_range
  have zz_enumerate := PySem.W.mg_none_of X G z_enumerate
  have zz_min := PySem.W.mg_none_of X G z_min
  have zz_sorted := PySem.W.mg_none_of X G z_sorted
  have zz_set := PySem.W.mg_none_of X G z_set
  have zz_max := PySem.W.mg_none_of X G z_max
  have zz_ValueError := PySem.W.mg_none_of X G z_ValueError
  have vv_NAMES : ∃ u, mg "NAMES" = some u ∧ RelV (.int 12) u := ⟨_, PySem.W.mg_of X G v_NAMES, _, rfl⟩
  have xg_Er := PySem.W.mg_of X G xa_Er
  have xg_Mv := PySem.W.mg_of X G xa_Mv
  have XMv : XFacts K xMv xEr := ⟨⟨xe_Mv, xk_Mv⟩, xs_Mv, xb_Mv, xt_Mv, xv_Mv⟩
  have xg_Kd := PySem.W.mg_of X G xa_Kd
  have XKd : XFacts K xKd xEr := ⟨⟨xe_Kd, xk_Kd⟩, xs_Kd, xb_Kd, xt_Kd, xv_Kd⟩
  have tt_KINDS := PySem.W.mg_of X G ta_KINDS
  have ht_KINDS : ∀ H : Hp, SqT K H tKINDS [.str "row", .str "name", .str "none"] := fun H => tup_lit tl_KINDS ti_KINDS (by show 3 ≤ sizeLine; decide) (.cons ⟨_, rfl⟩ (.cons ⟨_, rfl⟩ (.cons ⟨_, rfl⟩ (.nil))))
  have bt : BT mg := ⟨zz_isinstance, zz_int, zz_bool, zz_str, zz_len, zz_all, zz_range, zz_enumerate, zz_min, zz_sorted⟩
  have bs : BL mg := ⟨zz_set, zz_max⟩
  have ct : TrCls K cTray := ⟨clTray, nTray_kind, nTray_turn, nTray_queues⟩
  have T : ∀ base : Heap, K.In base → BmAt mg base → TrOk (K := K) (mg := mg) (base := base) ⟨fW, fI, fA, fLt, fF, fTk, fE, fLs, fO, cTray, PT, qF, xEr, xMv, xKd, tKINDS, _, _, _, _, _, _, _, _, _⟩ := fun base KB hB =>
    ⟨bt, ct, PySem.W.codeHd_of_K KB hdF, hB, FW, bW, gW, FI, bI, MTray, gCTray, vv_NAMES, FA, bA, meTray_add, FLt, bLt, meTray_latest, FF, bF, meTray_fronts, FTk, bTk, meTray_take, FE, bE, meTray_is_empty, FLs, bLs, meTray_listed, FO, bO, gO, tt_KINDS, ht_KINDS,
     XMv, XKd, xg_Mv, xg_Kd, xg_Er, zz_ValueError⟩
  have U : ∀ base : Heap, ∀ h1 h2, LwOk (K := K) (mg := mg) (base := base) ⟨fW, fI, fA, fLt, fF, fTk, fE, fLs, fO, cTray, PT, qF, xEr, xMv, xKd, tKINDS, _, _, _, _, _, _, _, _, _⟩ ⟨fC, fM, fN, fT, fFi, fTo, _, _, _, _, _, _, _, _⟩ := fun base h1 h2 =>
    ⟨T base h1 h2, bs, FC, bC, gC, FM, bM, gM, FN, bN, gN, FT, bT, gT, FFi, bFi, gFi, FTo, bTo, gTo, FLaw⟩
  exact ⟨PySem.W.fnOf "law" "law" (defArgs sLaw) (defBody sLaw) (defScope sLaw) .none kVLaw dcLaw pmLaw anLaw cdLaw ctLaw, fun s v => .of_eq rfl, fun base h1 h2 h3 => ok_law (U base h1 h3)⟩
theorem walk {l : PySem.W.OpenLaw} {q : Program} {loose : List Str} {XP : (Str → Option Value) → Heap → Prop} {d : DefRec} {K : Params → PySem.W.Frag} {as : List Addr} {ee : ∀ P, as = (K P).map (·.1)} {PT : Addr} (cs : List Addr) (hn : l.most = some 63) (hdf : d.params.defaults = [])
    (hcs : ∀ P : Params, (cs.zip [PT]).all (fun z => PySem.W.codeHdIn (K P) z.1 z.2) = true) (hlen : 1 ≤ cs.length) (htk : ∀ P : Params, [PT].all (fun b => ((K P).lookup b).isNone) = true)
    (F : ∀ (w : World) (mg : Str → Option Value) (fa : Addr) (h : Heap), (K w.params).In h → h.Ns mainGlobals mg → mg d.name = some (.ref fa) →
      ∃ fd : FuncData, (∀ (s : Shared) (u : Value), BindsTo s fd ⟨[u], []⟩ [("_law_script", u)]) ∧ ∀ base : Heap, (K w.params).In base → base.Ns mainGlobals mg → BmAt mg base → FnOk l.prog w (K w.params) mg base CX0 5 fa fd ["_law_script"] (spLawP (K w.params) PT)) :
    PySem.W.WalkO q loose XP (PySem.W.kmHook K as ee [PT]).says l.row.toRowW d [] (fun f vs => PySem.call f vs) :=
  L2.walk_ofT (n := 63) (k := 5) (x := "_law_script") (CX := fun _ => CX0) (sp := fun w => spLawP (K w.params) PT) hn (by decide) hdf ⟨rfl, by decide, by decide⟩ cs hcs hlen htk F (fun _ H a ns hl hO hS => ⟨a, ns, rfl, hS, hl, ⟨#[], hO.2 PT (by simp), .inl rfl⟩, fun _ => rfl⟩) fun _ _ _ _ _ z => z
end TL
open PySem PySem.W PyProof.Rows
set_option maxRecDepth 100000 in
set_option maxHeartbeats 0 in
theorem PySem.Challenge.cw_traylate_k21_trays_holds : PySem.Challenge.rw_traylate_k21_trays.Holds := by
  w_on; o_law; k_head; (case hw => w_witness2)
  k_fill
  refine TL.walk (l := PySem.Challenge.rw_traylate_k21_trays) [96] rfl rfl ?hcs (by decide) ?htk ?F
  case hcs => intro P; kernel_rfl
  case htk => intro P; kernel_rfl
  case F =>
    intro w mg fa h KX G hmg
    refine' TL.all_mk KX G hmg ?aCTray ?aW ?lW ?c_W ?kW ?aI ?lI ?c_I ?kI ?iI ?aA ?lA ?c_A ?kA ?iA ?aLt ?lLt ?c_Lt ?kLt ?iLt ?aF ?lF ?c_F ?hdF ?kF ?iF ?aTk ?lTk ?c_Tk ?kTk ?iTk ?aE ?lE ?c_E ?kE ?iE ?aLs ?lLs ?c_Ls ?kLs ?iLs ?aO ?lO ?c_O ?kO ?aC ?lC ?c_C ?kC ?aM ?lM ?c_M ?kM ?aN ?lN ?c_N ?kN ?aT ?lT ?c_T ?kT ?aFi ?lFi ?c_Fi ?kFi ?aTo ?lTo ?c_To ?kTo ?aLaw ?lLaw ?c_Law ?kLaw ?pgTray ?hdTray ?poTray ?saTray ?mkTray ?kcTray ?nTray_kind ?nTray_turn ?nTray_queues ?mTray_add ?mTray_latest ?mTray_fronts ?mTray_take ?mTray_is_empty ?mTray_listed ?inTray ?z_isinstance ?z_int ?z_bool ?z_str ?z_len ?z_all ?z_range ?z_enumerate ?z_min ?z_sorted ?z_set ?z_max ?z_ValueError ?v_NAMES ?xa_Er ?xa_Mv ?xa_Kd ?xe_Mv ?xk_Mv ?xs_Mv ?xb_Mv ?xt_Mv ?xv_Mv ?xe_Kd ?xk_Kd ?xs_Kd ?xb_Kd ?xt_Kd ?xv_Kd ?ta_KINDS ?tl_KINDS ?ti_KINDS
    (case aCTray => k_is)
    (case aW => k_is)
    (case lW => k_is)
    (case c_W => k_is)
    (case kW => k_is)
    (case aI => k_is)
    (case lI => k_is)
    (case c_I => k_is)
    (case kI => k_is)
    (case iI => k_is)
    (case aA => k_is)
    (case lA => k_is)
    (case c_A => k_is)
    (case kA => k_is)
    (case iA => k_is)
    (case aLt => k_is)
    (case lLt => k_is)
    (case c_Lt => k_is)
    (case kLt => k_is)
    (case iLt => k_is)
    (case aF => k_is)
    (case lF => k_is)
    (case c_F => k_is)
    (case hdF => kernel_rfl)
    (case kF => k_is)
    (case iF => k_is)
    (case aTk => k_is)
    (case lTk => k_is)
    (case c_Tk => k_is)
    (case kTk => k_is)
    (case iTk => k_is)
    (case aE => k_is)
    (case lE => k_is)
    (case c_E => k_is)
    (case kE => k_is)
    (case iE => k_is)
    (case aLs => k_is)
    (case lLs => k_is)
    (case c_Ls => k_is)
    (case kLs => k_is)
    (case iLs => k_is)
    (case aO => k_is)
    (case lO => k_is)
    (case c_O => k_is)
    (case kO => k_is)
    (case aC => k_is)
    (case lC => k_is)
    (case c_C => k_is)
    (case kC => k_is)
    (case aM => k_is)
    (case lM => k_is)
    (case c_M => k_is)
    (case kM => k_is)
    (case aN => k_is)
    (case lN => k_is)
    (case c_N => k_is)
    (case kN => k_is)
    (case aT => k_is)
    (case lT => k_is)
    (case c_T => k_is)
    (case kT => k_is)
    (case aFi => k_is)
    (case lFi => k_is)
    (case c_Fi => k_is)
    (case kFi => k_is)
    (case aTo => k_is)
    (case lTo => k_is)
    (case c_To => k_is)
    (case kTo => k_is)
    (case aLaw => k_is)
    (case lLaw => k_is)
    (case c_Law => k_is)
    (case kLaw => k_is)
    (case pgTray => k_is)
    (case hdTray => k_is)
    (case poTray => k_is)
    (case saTray => k_is)
    (case mkTray => k_is)
    (case kcTray => k_is)
    (case nTray_kind => k_is)
    (case nTray_turn => k_is)
    (case nTray_queues => k_is)
    (case mTray_add => k_is)
    (case mTray_latest => k_is)
    (case mTray_fronts => k_is)
    (case mTray_take => k_is)
    (case mTray_is_empty => k_is)
    (case mTray_listed => k_is)
    (case inTray => k_is)
    (case z_isinstance => k_is)
    (case z_int => k_is)
    (case z_bool => k_is)
    (case z_str => k_is)
    (case z_len => k_is)
    (case z_all => k_is)
    (case z_range => k_is)
    (case z_enumerate => k_is)
    (case z_min => k_is)
    (case z_sorted => k_is)
    (case z_set => k_is)
    (case z_max => k_is)
    (case z_ValueError => k_is)
    (case v_NAMES => k_is)
    (case xa_Er => k_is)
    (case xa_Mv => k_is)
    (case xa_Kd => k_is)
    (case xe_Mv => kernel_rfl)
    (case xk_Mv => k_is)
    (case xs_Mv => kernel_rfl)
    (case xb_Mv => kernel_rfl)
    (case xt_Mv => kernel_rfl)
    (case xv_Mv => kernel_rfl)
    (case xe_Kd => kernel_rfl)
    (case xk_Kd => k_is)
    (case xs_Kd => kernel_rfl)
    (case xb_Kd => kernel_rfl)
    (case xt_Kd => kernel_rfl)
    (case xv_Kd => kernel_rfl)
    (case ta_KINDS => k_is)
    (case tl_KINDS => k_is)
    (case ti_KINDS => rfl)
#print axioms PySem.Challenge.cw_traylate_k21_trays_holds

