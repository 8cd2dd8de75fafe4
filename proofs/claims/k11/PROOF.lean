import PyProof.Rows.All
import Wide.All
import OpenK.AllK
import Wide.FinOn
import Lean
import PyProof.EqAt
import PyProof.EqKinds
import PyProof.TupleCall
import PyProof.Walks
import PyProof.ZipIter
import PyProof.EnumMake
import PyProof.Draws
import PyProof.StationsW
import PyProof.PassesOwn
import PyProof.RulesAs
import PyProof.Rows.TopTwo
import OpenK.KOwn
import PyProof.NsDelKeeps
import KE.KIsAll
import OpenK.KEqL
import PyProof.ListMulRoad
import PyProof.FactsAll.tuple_2
import PyProof.DictUpdate
import PyProof.FactsAll.dict_4
import PyProof.FactsAll.dict_3
import PySem.Challenge.RW_traylate_k11_programs_looked_over
set_option Elab.async false
set_option linter.all false
set_option maxRecDepth 100000
set_option maxHeartbeats 40000000
namespace L2
end L2
namespace L3
end L3
namespace L4
end L4
namespace L5
end L5
namespace L2
open PySem PySem.Spec PyProof.Rows
def inClass (s : Stmt) (j : Nat) : Stmt := match s with
  | .ClassDef _ _ _ body _ _ _ _ _ _ _ => body.getD j (.Pass ⟨0, 0, 0, 0⟩)
  | _ => .Pass ⟨0, 0, 0, 0⟩
end L2
namespace L2
open PySem PySem.Spec PyProof.Rows
def defArgs (s : Stmt) : Arguments := match s with
  | .FunctionDef _ a _ _ _ _ _ _ _ _ => a
  | _ => { posonlyargs := [], args := [], vararg := none, kwonlyargs := [], kw_defaults := [], kwarg := none, defaults := [] }
end L2
namespace L2
open PySem PySem.Spec PyProof.Rows
def defBody (s : Stmt) : List Stmt := match s with
  | .FunctionDef _ _ b _ _ _ _ _ _ _ => b
  | _ => []
end L2
namespace L2
open PySem PySem.Spec PyProof.Rows
def defScope (s : Stmt) : Scope := match s with
  | .FunctionDef _ _ _ _ _ _ sc _ _ _ => sc
  | _ => { kind := .function, names := [], isGenerator := false, isCoroutine := false }
end L2
namespace TL
open PySem PySem.Spec PyProof.Rows L2 L3
abbrev TOPi : Int := 1000000000000000000000000000000000000000000000000000000000000
end TL
namespace L2
open PySem PySem.Spec PyProof.Rows L3
open Sem (wp)
abbrev bmVE : List Value := [.type "ValueError", .type "Exception", .type "BaseException", .type "object"]
end L2
namespace L2
open PySem PySem.Spec PyProof.Rows
abbrev gaBE : String := "BaseException.__getattribute__"
end L2
namespace L2
open PySem PySem.Spec PyProof.Rows L3
def onlyExc : List Value → Bool
  | .ref _ :: r => onlyExc r
  | .type a :: r => a == "ValueError" && (r == [.type "Exception", .type "BaseException", .type "object"])
  | _ => false
end L2
namespace L2
open PySem PySem.Spec PyProof.Rows L3
def excInI (K : PySem.W.Frag) (C : Addr) (bmB : List Value) (newId : String) : Bool :=
  match List.lookup C K with
  | some { cls := Value.type "type", dict := _, data := Data.cls cd, slots := sl } =>
    match cd.mro, sl.toList with
    | Value.ref C' :: bm, [_, _, _, _, some (Value.builtin n), _] => C' == C && n == newId && !cd.hasDel && W.tailIn K bmB bm && W.nsOkIn K cd.ns
    | _, _ => false
  | _ => false
end L2
namespace TL
open PySem PySem.Spec PyProof.Rows L2 L3
def top (i : Nat) : Stmt := PySem.Challenge.pw_traylate_k11_programs_looked_over.main.body.getD i (.Pass ⟨0, 0, 0, 0⟩)
end TL
namespace TL
open PySem PySem.Spec PyProof.Rows L2 L3
abbrev sInit : Stmt := inClass (top 13) 0
end TL
namespace TL
open PySem PySem.Spec PyProof.Rows L2 L3
abbrev sWhole : Stmt := top 21
end TL
namespace TL
open PySem PySem.Spec PyProof.Rows L2 L3
abbrev sBounds : Stmt := top 22
end TL
namespace TL
open PySem PySem.Spec PyProof.Rows L2 L3
abbrev sIsStep : Stmt := top 23
end TL
namespace TL
open PySem PySem.Spec PyProof.Rows L2 L3
abbrev sStepOf : Stmt := top 24
end TL
namespace TL
open PySem PySem.Spec PyProof.Rows L2 L3
abbrev sPutI : Stmt := inClass (top 14) 0
end TL
namespace TL
open PySem PySem.Spec PyProof.Rows L2 L3
abbrev sAddI : Stmt := inClass (top 15) 0
end TL
namespace TL
open PySem PySem.Spec PyProof.Rows L2 L3
abbrev sSetI : Stmt := inClass (top 16) 0
end TL
namespace TL
open PySem PySem.Spec PyProof.Rows L2 L3
abbrev sLookI : Stmt := inClass (top 17) 0
end TL
namespace TL
open PySem PySem.Spec PyProof.Rows L2 L3
abbrev sSwapI : Stmt := inClass (top 18) 0
end TL
namespace TL
open PySem PySem.Spec PyProof.Rows L2 L3
abbrev sSkipI : Stmt := inClass (top 20) 0
end TL
namespace TL
open PySem PySem.Spec PyProof.Rows PySem.SeqAt L2 L3
abbrev sNPI : Stmt := inClass (top 5) 0
end TL
namespace TL
open PySem PySem.Spec PyProof.Rows PySem.SeqAt L2 L3
abbrev sHas : Stmt := top 27
end TL
namespace TL
open PySem PySem.Spec PyProof.Rows PySem.SeqAt L2 L3
abbrev sFits : Stmt := top 28
end TL
namespace TL
open PySem PySem.Spec PyProof.Rows PySem.SeqAt L2 L3
abbrev sLookOver : Stmt := top 29
end TL
namespace TL
open PySem PySem.Spec PyProof.Rows PySem.SeqAt L2 L3
abbrev sCellAt : Stmt := top 31
end TL
namespace TL
open PySem PySem.Spec PyProof.Rows PySem.SeqAt L2 L3
abbrev sMixed : Stmt := top 32
end TL
namespace TL
open PySem PySem.Spec PyProof.Rows PySem.SeqAt L2 L3
abbrev sLStep : Stmt := top 33
end TL
namespace TL
open PySem PySem.Spec PyProof.Rows PySem.SeqAt L2 L3
abbrev sLNone : Stmt := top 34
end TL
namespace TL
open PySem PySem.Spec PyProof.Rows PySem.SeqAt L2 L3
abbrev sIsNone : Stmt := top 35
end TL
namespace TL
open PySem PySem.Spec PyProof.Rows PySem.SeqAt L2 L3
abbrev sParts : Stmt := top 36
end TL
namespace TL
open PySem PySem.Spec PyProof.Rows PySem.SeqAt L2 L3
abbrev sChanged : Stmt := top 37
end TL
namespace TL
open PySem PySem.Spec PyProof.Rows PySem.SeqAt L2 L3
abbrev sDue : Stmt := top 38
end TL
namespace TL
open PySem PySem.Spec PyProof.Rows PySem.SeqAt L2 L3
abbrev sWord : Stmt := top 39
end TL
namespace TL
open PySem PySem.Spec PyProof.Rows PySem.SeqAt L2 L3
abbrev sLaw : Stmt := top 40
end TL
namespace HT
open PySem PySem.W
def topRunT (tb : String → Option Builtin) (p : Program) (w : World) (n₀ : Nat) (ann : Option Value) : Nat → SharedT → Thread → Option SharedT
  | 0, _, _ => none
  | n + 1, s, t => match through t with
    | true => some s
    | false => match stepOk n₀ ann t with
      | false => none
      | true => match stepT (denote tb) p w s t with
        | some (s', t') => topRunT tb p w n₀ ann n s' t'
        | none => none
theorem topRun_ofT {tb : String → Option Builtin} {p : Program} {w : World} {n₀ : Nat} {ann : Option Value} : ∀ {n : Nat} {s s' : SharedT} {t : Thread}, topRunT tb p w n₀ ann n s t = some s' → topRun tb p w n₀ ann n s.abs t = some s'.abs
  | 0, _, _, _, h => by cases h
  | n + 1, s, s', t, h => by
    unfold topRunT at h
    unfold topRun
    cases he : through t with
    | true => rw [he] at h; cases h; rfl
    | false =>
      rw [he] at h
      cases hk : stepOk n₀ ann t with
      | false => rw [hk] at h; cases h
      | true =>
        rw [hk] at h
        cases hs : stepT (denote tb) p w s t with
        | none => rw [hs] at h; cases h
        | some r => obtain ⟨s₂, t₂⟩ := r; rw [hs] at h; rw [stepT_spec hs]; exact topRun_ofT h
def treeOfL : List Obj → Nat → BT → BT
  | [], _, t => t
  | o :: r, i, t => treeOfL r (i + 1) (t.ins i o)
noncomputable def bootT (P : Params) : BT := treeOfL (boot_heap P).objs.toList 0 .nil
noncomputable def bootN (P : Params) : Nat := (boot_heap P).objs.size
noncomputable def bootL (P : Params) : Life := (boot_heap P).life
noncomputable def bootA (P : Params) : Option Value := (boot_heap P).nsMap mainGlobals "__annotations__"
theorem boot_abs (P : Params) : absHeap (bootT P) (bootN P) (bootL P) = boot_heap P := by kernel_rfl
theorem boot_ns (P : Params) : ((boot_heap P).isNs mainGlobals, (boot_heap P).objs.size) = (true, bootN P) := by kernel_rfl
noncomputable def start₀ (P : Params) (os : OsState) : SharedT := ⟨bootT P, bootN P, bootL P, #[], boot_drawn, boot_toks, os⟩
noncomputable def ran (p : Program) (w : World) (N : Nat) (os : OsState) : Option SharedT := topRunT treeTable p w (bootN w.params) (bootA w.params) N (start₀ w.params os) (topStub p)
noncomputable def held (p : Program) (P : Params) (s : Shared) : Bool := staticsOk (importedModules p.main.body) (boot_heap P) s.heap && namesBound p s.heap && gensDone s && laidKept (boot_heap P) s.heap
theorem both {α β γ : Type} {o : Option α} {f : α → β} {g : α → γ} {b : β} {c : γ} (h1 : o.map f = some b) (h2 : o.map g = some c) : o.map (fun s => (f s, g s)) = some (b, c) := by
  cases o with
  | none => cases h1
  | some s => cases h1; cases h2; rfl
theorem topFrom_of {p : Program} {w : World} {N : Nat} {s₀ s₁ : Shared} (a : (s₀.heap.isNs mainGlobals && s₀.gens.size == 0) = true) (r : topRun treeTable p w s₀.heap.objs.size (s₀.heap.nsMap mainGlobals "__annotations__") N s₀ (topStub p) = some s₁)
    (b : (staticsOk (importedModules p.main.body) s₀.heap s₁.heap && namesBound p s₁.heap && gensDone s₁ && laidKept s₀.heap s₁.heap) = true) : topFrom treeTable p w N s₀ = some s₁ := by
  unfold topFrom
  rw [a]
  dsimp only
  rw [r]
  dsimp only [Option.bind]
  rw [b]
theorem left_of {p q : Program} {loose : List Str} {Xt : Shared → Bool} {α : Type} {Yf : Shared → α} {Ya : World → α} {N : Nat} (e : opening p = plainProg p.main.scope.names) (hN : Nat.ble 600 N = true) (f : ∀ s, fenceModules? p s = some s)
    (run : ∀ (w : World) (os : OsState), (ran p w N os).map (fun s => (held p w.params s.abs, (openSeen q loose (importedModules p.main.body) Xt true s.abs, Yf s.abs))) = some (true, (openGood q loose, Ya w))) : LeftO p q loose Xt Yf Ya N := fun w => by
  obtain ⟨⟨h, gs, d, k, os⟩, e1, e'⟩ := Option.map_eq_some_iff.mp (boot_open e hN f w)
  obtain ⟨rfl, rfl, rfl, rfl⟩ : h = boot_heap w.params ∧ gs = Array.mk [] ∧ d = boot_drawn ∧ k = boot_toks := by simpa using e'
  obtain ⟨s₁, r, l⟩ := Option.map_eq_some_iff.mp (run w os)
  obtain ⟨l1, l2⟩ := Prod.mk.inj l
  obtain ⟨z1, z2⟩ := Prod.mk.inj (boot_ns w.params)
  have r' := topRun_ofT r
  have ea : (start₀ w.params os).abs = ⟨boot_heap w.params, Array.mk [], boot_drawn, boot_toks, os⟩ := by
    show (⟨absHeap (bootT w.params) (bootN w.params) (bootL w.params), _, _, _, _⟩ : Shared) = _
    rw [boot_abs]
    rfl
  rw [ea] at r'
  have t : topFrom treeTable p w N ⟨boot_heap w.params, Array.mk [], boot_drawn, boot_toks, os⟩ = some s₁.abs := topFrom_of (by rw [z1]; rfl) (by show topRun treeTable p w (boot_heap w.params).objs.size _ N _ _ = _; rw [z2]; exact r') l1
  unfold openEnds
  rw [e1]
  show (topFrom treeTable p w N _).map _ = _
  rw [t]
  exact congrArg some l2
end HT

namespace HT
open PySem PySem.W
def fragAt (h : Heap) : Frag := (List.range h.objs.size).filterMap fun a => (h.get? a).map fun o => (a, o)
theorem look_fm {g : Addr → Option Obj} {a : Addr} {o : Obj} : ∀ l : List Addr, (l.filterMap fun a => (g a).map fun o => (a, o)).lookup a = some o → g a = some o
  | [], h => by cases h
  | b :: r, h => by
    rw [List.filterMap_cons] at h
    cases e : g b with
    | none => rw [e] at h; exact look_fm r h
    | some x =>
      rw [e] at h
      dsimp only [Option.map] at h
      rw [List.lookup_cons] at h
      cases q : a == b with
      | true => rw [q] at h; cases h; rw [beq_iff_eq.mp q]; exact e
      | false => rw [q] at h; exact look_fm r h
theorem fragAt_in (h : Heap) : (fragAt h).In h := fun _ _ e => look_fm _ e
def rf : Option (Option Value) → Addr
  | some (some (.ref a)) => a
  | _ => 0
def isR : Option (Option Value) → Bool
  | some (some (.ref _)) => true
  | _ => false
theorem rf_eq {o : Option (Option Value)} (h : isR o = true) : o = some (some (.ref (rf o))) := by
  unfold isR at h
  split at h
  · rfl
  · cases h
def isI (o : Option (Option Value)) (n : Int) : Bool := match o with
  | some (some (.int m _)) => decide (m = n)
  | _ => false
theorem isI_eq {o : Option (Option Value)} {n : Int} (h : isI o n = true) : ∃ t, o = some (some (.int n t)) := by
  unfold isI at h
  split at h
  · rename_i m t; exact ⟨t, by rw [of_decide_eq_true h]⟩
  · cases h
def isV (o : Option CFound) (f : Addr) : Bool := match o with
  | some (.val (.ref a)) => Nat.beq a f
  | _ => false
theorem isV_eq {o : Option CFound} {f : Addr} (h : isV o f = true) : o = some (.val (.ref f)) := by
  unfold isV at h
  split at h
  · rw [Nat.eq_of_beq_eq_true h]
  · cases h
abbrev FnP := Str × Str × Arguments × FuncBody × Scope × Addr × List (Str × Addr) × Value × Addr
def fnP (K : Frag) (f : Addr) : Option FnP := match K.lookup f with
  | some ⟨_, _, .func d, _⟩ => some (d.name, d.qualname, d.params, d.body, d.scope, d.globals, d.closure, d.defaults, d.builtins)
  | _ => none
def codeOk (K : Frag) (f : Addr) (q : Str) : Bool := match K.lookup f with
  | some ⟨_, _, .func d, _⟩ => codeIn K d.code q
  | _ => false
theorem fn_of {K : Frag} {f : Addr} {n q q' : Str} {A : Arguments} {B : List Stmt} {S : Scope} (h : fnP K f = some (n, q, A, .stmts B, S, mainGlobals, [], .none, builtinsNs)) (hc : codeOk K f q' = true) :
    ∃ (oc : Value) (od : Option Addr) (kV dc pm : Value) (an : Option Addr) (cd ct : Value) (sl : Array (Option Value)), K.lookup f = some ⟨oc, od, .func (fnOf n q A B S .none kV dc pm an cd ct), sl⟩ ∧ codeIn K cd q' = true := by
  unfold fnP at h
  unfold codeOk at hc
  split at h
  · rename_i oc od d sl e
    rw [e] at hc
    obtain ⟨d1, d2, d3, d4, d5, d6, d7, d8, d9, d10, d11, d12, d13, d14, d15⟩ := d
    simp only [Option.some.injEq, Prod.mk.injEq] at h
    obtain ⟨rfl, rfl, rfl, rfl, rfl, rfl, rfl, rfl, rfl⟩ := h
    exact ⟨oc, od, _, _, _, _, _, _, sl, e, hc⟩
  · cases h
theorem andD {p : Prop} [Decidable p] {b : Bool} (h : (decide p && b) = true) : p ∧ b = true := by
  rw [Bool.and_eq_true, decide_eq_true_eq] at h; exact h
theorem andB {a b : Bool} (h : (a && b) = true) : a = true ∧ b = true := by
  rw [Bool.and_eq_true] at h; exact h
def kHook2 (obs : Frag → Bool × List (Option FnP)) (val : Bool × List (Option FnP)) : Hook :=
  ⟨Bool × List (Option FnP), fun s => obs (fragAt s.heap), fun _ => val, fun _ h => ∃ K : Frag, K.In h ∧ obs K = val, fun _ s e => ⟨_, fragAt_in s.heap, e⟩, fun _ _ _ ⟨K, a, b⟩ k => ⟨K, a.keeps k, b⟩⟩
end HT

namespace TL
open PySem PySem.Spec PyProof.Rows PySem.SeqAt L2 L3
def A_xEr (K : PySem.W.Frag) : Addr := HT.rf (PySem.W.nsIn K mainGlobals "TrayError")
def A_xNo (K : PySem.W.Frag) : Addr := HT.rf (PySem.W.nsIn K mainGlobals "NoStep")
def A_xNC (K : PySem.W.Frag) : Addr := HT.rf (PySem.W.nsIn K mainGlobals "NoClerks")
def A_xNP (K : PySem.W.Frag) : Addr := HT.rf (PySem.W.nsIn K mainGlobals "NoProgram")
def A_xNK (K : PySem.W.Frag) : Addr := HT.rf (PySem.W.nsIn K mainGlobals "NoKind")
def A_xNT (K : PySem.W.Frag) : Addr := HT.rf (PySem.W.nsIn K mainGlobals "NoText")
def A_cStep (K : PySem.W.Frag) : Addr := HT.rf (PySem.W.nsIn K mainGlobals "Step")
def A_cPut (K : PySem.W.Frag) : Addr := HT.rf (PySem.W.nsIn K mainGlobals "Put")
def A_cAdd (K : PySem.W.Frag) : Addr := HT.rf (PySem.W.nsIn K mainGlobals "Add")
def A_cSet (K : PySem.W.Frag) : Addr := HT.rf (PySem.W.nsIn K mainGlobals "Set")
def A_cLook (K : PySem.W.Frag) : Addr := HT.rf (PySem.W.nsIn K mainGlobals "Look")
def A_cSwap (K : PySem.W.Frag) : Addr := HT.rf (PySem.W.nsIn K mainGlobals "Swap")
def A_cSkip (K : PySem.W.Frag) : Addr := HT.rf (PySem.W.nsIn K mainGlobals "Skip")
def A_cClear (K : PySem.W.Frag) : Addr := HT.rf (PySem.W.nsIn K mainGlobals "Clear")
def A_fW (K : PySem.W.Frag) : Addr := HT.rf (PySem.W.nsIn K mainGlobals "is_whole")
def A_fB (K : PySem.W.Frag) : Addr := HT.rf (PySem.W.nsIn K mainGlobals "bounds_of")
def A_fS (K : PySem.W.Frag) : Addr := HT.rf (PySem.W.nsIn K mainGlobals "is_step")
def A_fO (K : PySem.W.Frag) : Addr := HT.rf (PySem.W.nsIn K mainGlobals "step_of")
def A_fI (K : PySem.W.Frag) : Addr := HT.rf (PySem.W.findIn K (.ref (A_cStep K)) "__init__")
def A_fPut (K : PySem.W.Frag) : Addr := HT.rf (PySem.W.findIn K (.ref (A_cPut K)) "__init__")
def A_fAdd (K : PySem.W.Frag) : Addr := HT.rf (PySem.W.findIn K (.ref (A_cAdd K)) "__init__")
def A_fSet (K : PySem.W.Frag) : Addr := HT.rf (PySem.W.findIn K (.ref (A_cSet K)) "__init__")
def A_fLook (K : PySem.W.Frag) : Addr := HT.rf (PySem.W.findIn K (.ref (A_cLook K)) "__init__")
def A_fSwap (K : PySem.W.Frag) : Addr := HT.rf (PySem.W.findIn K (.ref (A_cSwap K)) "__init__")
def A_fSkip (K : PySem.W.Frag) : Addr := HT.rf (PySem.W.findIn K (.ref (A_cSkip K)) "__init__")
def A_fNPI (K : PySem.W.Frag) : Addr := HT.rf (PySem.W.findIn K (.ref (A_xNP K)) "__init__")
def A_fHC (K : PySem.W.Frag) : Addr := HT.rf (PySem.W.nsIn K mainGlobals "has_clerks")
def A_fFI (K : PySem.W.Frag) : Addr := HT.rf (PySem.W.nsIn K mainGlobals "fits")
def A_fLO (K : PySem.W.Frag) : Addr := HT.rf (PySem.W.nsIn K mainGlobals "look_over")
def A_fCA (K : PySem.W.Frag) : Addr := HT.rf (PySem.W.nsIn K mainGlobals "_law_cell_at")
def A_fMI (K : PySem.W.Frag) : Addr := HT.rf (PySem.W.nsIn K mainGlobals "_law_mixed")
def A_fLS (K : PySem.W.Frag) : Addr := HT.rf (PySem.W.nsIn K mainGlobals "_law_step")
def A_fLN (K : PySem.W.Frag) : Addr := HT.rf (PySem.W.nsIn K mainGlobals "_law_none")
def A_fIN (K : PySem.W.Frag) : Addr := HT.rf (PySem.W.nsIn K mainGlobals "_law_is_none")
def A_fPA (K : PySem.W.Frag) : Addr := HT.rf (PySem.W.nsIn K mainGlobals "_law_parts")
def A_fCH (K : PySem.W.Frag) : Addr := HT.rf (PySem.W.nsIn K mainGlobals "_law_changed")
def A_fDU (K : PySem.W.Frag) : Addr := HT.rf (PySem.W.nsIn K mainGlobals "_law_due")
def A_fWO (K : PySem.W.Frag) : Addr := HT.rf (PySem.W.nsIn K mainGlobals "_law_word")
def A_fLaw (K : PySem.W.Frag) : Addr := HT.rf (PySem.W.nsIn K mainGlobals "law")
def seen_0 (K : PySem.W.Frag) : Bool :=
  (HT.isR (PySem.W.nsIn K mainGlobals "TrayError")) && (
  (HT.isR (PySem.W.nsIn K mainGlobals "NoStep")) && (
  (HT.isR (PySem.W.nsIn K mainGlobals "NoClerks")) && (
  (HT.isR (PySem.W.nsIn K mainGlobals "NoProgram")) && (
  (HT.isR (PySem.W.nsIn K mainGlobals "NoKind")) && (
  (HT.isR (PySem.W.nsIn K mainGlobals "NoText")) && (
  (HT.isR (PySem.W.nsIn K mainGlobals "Step")) && (
  (HT.isR (PySem.W.nsIn K mainGlobals "Put")) && (
  (HT.isR (PySem.W.nsIn K mainGlobals "Add")) && (
  (HT.isR (PySem.W.nsIn K mainGlobals "Set")) && (true))))))))))
def seen_1 (K : PySem.W.Frag) : Bool :=
  (HT.isR (PySem.W.nsIn K mainGlobals "Look")) && (
  (HT.isR (PySem.W.nsIn K mainGlobals "Swap")) && (
  (HT.isR (PySem.W.nsIn K mainGlobals "Skip")) && (
  (HT.isR (PySem.W.nsIn K mainGlobals "Clear")) && (
  (HT.isR (PySem.W.nsIn K mainGlobals "is_whole")) && (
  (HT.codeOk K (A_fW K) "is_whole") && (
  (PySem.W.keepIn K (.ref (A_fW K))) && (
  (HT.isR (PySem.W.nsIn K mainGlobals "bounds_of")) && (
  (HT.codeOk K (A_fB K) "bounds_of") && (
  (PySem.W.keepIn K (.ref (A_fB K))) && (true))))))))))
def seen_2 (K : PySem.W.Frag) : Bool :=
  (HT.isR (PySem.W.nsIn K mainGlobals "is_step")) && (
  (HT.codeOk K (A_fS K) "is_step") && (
  (PySem.W.keepIn K (.ref (A_fS K))) && (
  (HT.isR (PySem.W.nsIn K mainGlobals "step_of")) && (
  (HT.codeOk K (A_fO K) "step_of") && (
  (PySem.W.keepIn K (.ref (A_fO K))) && (
  (HT.isR (PySem.W.findIn K (.ref (A_cStep K)) "__init__")) && (
  (HT.codeOk K (A_fI K) "Step.__init__") && (
  (PySem.W.keepIn K (.ref (A_fI K))) && (
  (PySem.W.isFn K (.ref (A_fI K))) && (true))))))))))
def seen_3 (K : PySem.W.Frag) : Bool :=
  (HT.isR (PySem.W.findIn K (.ref (A_cPut K)) "__init__")) && (
  (HT.codeOk K (A_fPut K) "Put.__init__") && (
  (PySem.W.keepIn K (.ref (A_fPut K))) && (
  (PySem.W.isFn K (.ref (A_fPut K))) && (
  (HT.isR (PySem.W.findIn K (.ref (A_cAdd K)) "__init__")) && (
  (HT.codeOk K (A_fAdd K) "Add.__init__") && (
  (PySem.W.keepIn K (.ref (A_fAdd K))) && (
  (PySem.W.isFn K (.ref (A_fAdd K))) && (
  (HT.isR (PySem.W.findIn K (.ref (A_cSet K)) "__init__")) && (
  (HT.codeOk K (A_fSet K) "Set.__init__") && (true))))))))))
def seen_4 (K : PySem.W.Frag) : Bool :=
  (PySem.W.keepIn K (.ref (A_fSet K))) && (
  (PySem.W.isFn K (.ref (A_fSet K))) && (
  (HT.isR (PySem.W.findIn K (.ref (A_cLook K)) "__init__")) && (
  (HT.codeOk K (A_fLook K) "Look.__init__") && (
  (PySem.W.keepIn K (.ref (A_fLook K))) && (
  (PySem.W.isFn K (.ref (A_fLook K))) && (
  (HT.isR (PySem.W.findIn K (.ref (A_cSwap K)) "__init__")) && (
  (HT.codeOk K (A_fSwap K) "Swap.__init__") && (
  (PySem.W.keepIn K (.ref (A_fSwap K))) && (
  (PySem.W.isFn K (.ref (A_fSwap K))) && (true))))))))))
def seen_5 (K : PySem.W.Frag) : Bool :=
  (HT.isR (PySem.W.findIn K (.ref (A_cSkip K)) "__init__")) && (
  (HT.codeOk K (A_fSkip K) "Skip.__init__") && (
  (PySem.W.keepIn K (.ref (A_fSkip K))) && (
  (PySem.W.isFn K (.ref (A_fSkip K))) && (
  (HT.isR (PySem.W.findIn K (.ref (A_xNP K)) "__init__")) && (
  (HT.codeOk K (A_fNPI K) "NoProgram.__init__") && (
  (PySem.W.keepIn K (.ref (A_fNPI K))) && (
  (PySem.W.isFn K (.ref (A_fNPI K))) && (
  (HT.isR (PySem.W.nsIn K mainGlobals "has_clerks")) && (
  (HT.codeOk K (A_fHC K) "has_clerks") && (true))))))))))
def seen_6 (K : PySem.W.Frag) : Bool :=
  (PySem.W.keepIn K (.ref (A_fHC K))) && (
  (HT.isR (PySem.W.nsIn K mainGlobals "fits")) && (
  (HT.codeOk K (A_fFI K) "fits") && (
  (PySem.W.keepIn K (.ref (A_fFI K))) && (
  (HT.isR (PySem.W.nsIn K mainGlobals "look_over")) && (
  (HT.codeOk K (A_fLO K) "look_over") && (
  (PySem.W.keepIn K (.ref (A_fLO K))) && (
  (HT.isR (PySem.W.nsIn K mainGlobals "_law_cell_at")) && (
  (HT.codeOk K (A_fCA K) "_law_cell_at") && (
  (PySem.W.keepIn K (.ref (A_fCA K))) && (true))))))))))
def seen_7 (K : PySem.W.Frag) : Bool :=
  (HT.isR (PySem.W.nsIn K mainGlobals "_law_mixed")) && (
  (HT.codeOk K (A_fMI K) "_law_mixed") && (
  (PySem.W.keepIn K (.ref (A_fMI K))) && (
  (HT.isR (PySem.W.nsIn K mainGlobals "_law_step")) && (
  (HT.codeOk K (A_fLS K) "_law_step") && (
  (PySem.W.keepIn K (.ref (A_fLS K))) && (
  (HT.isR (PySem.W.nsIn K mainGlobals "_law_none")) && (
  (HT.codeOk K (A_fLN K) "_law_none") && (
  (PySem.W.keepIn K (.ref (A_fLN K))) && (
  (HT.isR (PySem.W.nsIn K mainGlobals "_law_is_none")) && (true))))))))))
def seen_8 (K : PySem.W.Frag) : Bool :=
  (HT.codeOk K (A_fIN K) "_law_is_none") && (
  (PySem.W.keepIn K (.ref (A_fIN K))) && (
  (HT.isR (PySem.W.nsIn K mainGlobals "_law_parts")) && (
  (HT.codeOk K (A_fPA K) "_law_parts") && (
  (PySem.W.keepIn K (.ref (A_fPA K))) && (
  (HT.isR (PySem.W.nsIn K mainGlobals "_law_changed")) && (
  (HT.codeOk K (A_fCH K) "_law_changed") && (
  (PySem.W.keepIn K (.ref (A_fCH K))) && (
  (HT.isR (PySem.W.nsIn K mainGlobals "_law_due")) && (
  (HT.codeOk K (A_fDU K) "_law_due") && (true))))))))))
def seen_9 (K : PySem.W.Frag) : Bool :=
  (PySem.W.keepIn K (.ref (A_fDU K))) && (
  (HT.isR (PySem.W.nsIn K mainGlobals "_law_word")) && (
  (HT.codeOk K (A_fWO K) "_law_word") && (
  (PySem.W.keepIn K (.ref (A_fWO K))) && (
  (HT.isR (PySem.W.nsIn K mainGlobals "law")) && (
  (HT.codeOk K (A_fLaw K) "law") && (
  (PySem.W.keepIn K (.ref (A_fLaw K))) && (
  (PySem.W.plainGet K (A_cStep K) Str.empty) && (
  (PySem.W.hasDictIn K (A_cStep K)) && (
  (PySem.W.plainOver K (A_cStep K)) && (true))))))))))
def seen_10 (K : PySem.W.Frag) : Bool :=
  (decide (PySem.W.findIn K (.ref (A_cStep K)) "__setattr__" = some (some (.builtin "object.__setattr__")))) && (
  (PySem.W.plainGet K (A_cPut K) Str.empty) && (
  (PySem.W.hasDictIn K (A_cPut K)) && (
  (PySem.W.plainOver K (A_cPut K)) && (
  (decide (PySem.W.findIn K (.ref (A_cPut K)) "__setattr__" = some (some (.builtin "object.__setattr__")))) && (
  (PySem.W.makesIn K (A_cPut K)) && (
  (PySem.W.keepIn K (.ref (A_cPut K))) && (
  (decide (PySem.W.findIn K (.ref (A_cPut K)) "parts" = some none)) && (
  (decide (PySem.W.findIn K (.ref (A_cPut K)) "reg" = some none)) && (
  (decide (PySem.W.findIn K (.ref (A_cPut K)) "number" = some none)) && (true))))))))))
def seen_11 (K : PySem.W.Frag) : Bool :=
  (PySem.W.plainGet K (A_cAdd K) Str.empty) && (
  (PySem.W.hasDictIn K (A_cAdd K)) && (
  (PySem.W.plainOver K (A_cAdd K)) && (
  (decide (PySem.W.findIn K (.ref (A_cAdd K)) "__setattr__" = some (some (.builtin "object.__setattr__")))) && (
  (PySem.W.makesIn K (A_cAdd K)) && (
  (PySem.W.keepIn K (.ref (A_cAdd K))) && (
  (decide (PySem.W.findIn K (.ref (A_cAdd K)) "parts" = some none)) && (
  (decide (PySem.W.findIn K (.ref (A_cAdd K)) "reg" = some none)) && (
  (decide (PySem.W.findIn K (.ref (A_cAdd K)) "other" = some none)) && (
  (PySem.W.plainGet K (A_cSet K) Str.empty) && (true))))))))))
def seen_12 (K : PySem.W.Frag) : Bool :=
  (PySem.W.hasDictIn K (A_cSet K)) && (
  (PySem.W.plainOver K (A_cSet K)) && (
  (decide (PySem.W.findIn K (.ref (A_cSet K)) "__setattr__" = some (some (.builtin "object.__setattr__")))) && (
  (PySem.W.makesIn K (A_cSet K)) && (
  (PySem.W.keepIn K (.ref (A_cSet K))) && (
  (decide (PySem.W.findIn K (.ref (A_cSet K)) "parts" = some none)) && (
  (decide (PySem.W.findIn K (.ref (A_cSet K)) "name" = some none)) && (
  (decide (PySem.W.findIn K (.ref (A_cSet K)) "reg" = some none)) && (
  (PySem.W.plainGet K (A_cLook K) Str.empty) && (
  (PySem.W.hasDictIn K (A_cLook K)) && (true))))))))))
def seen_13 (K : PySem.W.Frag) : Bool :=
  (PySem.W.plainOver K (A_cLook K)) && (
  (decide (PySem.W.findIn K (.ref (A_cLook K)) "__setattr__" = some (some (.builtin "object.__setattr__")))) && (
  (PySem.W.makesIn K (A_cLook K)) && (
  (PySem.W.keepIn K (.ref (A_cLook K))) && (
  (decide (PySem.W.findIn K (.ref (A_cLook K)) "parts" = some none)) && (
  (decide (PySem.W.findIn K (.ref (A_cLook K)) "reg" = some none)) && (
  (decide (PySem.W.findIn K (.ref (A_cLook K)) "name" = some none)) && (
  (PySem.W.plainGet K (A_cSwap K) Str.empty) && (
  (PySem.W.hasDictIn K (A_cSwap K)) && (
  (PySem.W.plainOver K (A_cSwap K)) && (true))))))))))
def seen_14 (K : PySem.W.Frag) : Bool :=
  (decide (PySem.W.findIn K (.ref (A_cSwap K)) "__setattr__" = some (some (.builtin "object.__setattr__")))) && (
  (PySem.W.makesIn K (A_cSwap K)) && (
  (PySem.W.keepIn K (.ref (A_cSwap K))) && (
  (decide (PySem.W.findIn K (.ref (A_cSwap K)) "parts" = some none)) && (
  (decide (PySem.W.findIn K (.ref (A_cSwap K)) "reg" = some none)) && (
  (decide (PySem.W.findIn K (.ref (A_cSwap K)) "name" = some none)) && (
  (PySem.W.plainGet K (A_cSkip K) Str.empty) && (
  (PySem.W.hasDictIn K (A_cSkip K)) && (
  (PySem.W.plainOver K (A_cSkip K)) && (
  (decide (PySem.W.findIn K (.ref (A_cSkip K)) "__setattr__" = some (some (.builtin "object.__setattr__")))) && (true))))))))))
def seen_15 (K : PySem.W.Frag) : Bool :=
  (PySem.W.makesIn K (A_cSkip K)) && (
  (PySem.W.keepIn K (.ref (A_cSkip K))) && (
  (decide (PySem.W.findIn K (.ref (A_cSkip K)) "parts" = some none)) && (
  (decide (PySem.W.findIn K (.ref (A_cSkip K)) "reg" = some none)) && (
  (decide (PySem.W.findIn K (.ref (A_cSkip K)) "place" = some none)) && (
  (PySem.W.plainGet K (A_cClear K) Str.empty) && (
  (PySem.W.hasDictIn K (A_cClear K)) && (
  (PySem.W.plainOver K (A_cClear K)) && (
  (decide (PySem.W.findIn K (.ref (A_cClear K)) "__setattr__" = some (some (.builtin "object.__setattr__")))) && (
  (PySem.W.makesIn K (A_cClear K)) && (true))))))))))
def seen_16 (K : PySem.W.Frag) : Bool :=
  (PySem.W.keepIn K (.ref (A_cClear K))) && (
  (decide (PySem.W.findIn K (.ref (A_cClear K)) "parts" = some none)) && (
  (decide (PySem.W.findIn K (.ref (A_cPut K)) "__init__" = some (some (.ref (A_fPut K))))) && (
  (decide (PySem.W.findIn K (.ref (A_cAdd K)) "__init__" = some (some (.ref (A_fAdd K))))) && (
  (decide (PySem.W.findIn K (.ref (A_cSet K)) "__init__" = some (some (.ref (A_fSet K))))) && (
  (decide (PySem.W.findIn K (.ref (A_cLook K)) "__init__" = some (some (.ref (A_fLook K))))) && (
  (decide (PySem.W.findIn K (.ref (A_cSwap K)) "__init__" = some (some (.ref (A_fSwap K))))) && (
  (decide (PySem.W.findIn K (.ref (A_cSkip K)) "__init__" = some (some (.ref (A_fSkip K))))) && (
  (decide (PySem.W.findIn K (.ref (A_cClear K)) "__init__" = some (some (.ref (A_fI K))))) && (
  (decide (PySem.W.specialIn K (.ref (A_cStep K)) "__getattribute__" = some (some (.builtin "type.__getattribute__")))) && (true))))))))))
def seen_17 (K : PySem.W.Frag) : Bool :=
  (PySem.W.readsIn K (A_cStep K) (.type "type")) && (
  (HT.isV (PySem.W.findCls K (.ref (A_cStep K)) (.type "type") "__init__") (A_fI K)) && (
  (decide (PySem.W.nsIn K mainGlobals "isinstance" = some none)) && (
  (decide (PySem.W.nsIn K mainGlobals "int" = some none)) && (
  (decide (PySem.W.nsIn K mainGlobals "bool" = some none)) && (
  (decide (PySem.W.nsIn K mainGlobals "str" = some none)) && (
  (decide (PySem.W.nsIn K mainGlobals "tuple" = some none)) && (
  (decide (PySem.W.nsIn K mainGlobals "len" = some none)) && (
  (decide (PySem.W.nsIn K mainGlobals "all" = some none)) && (
  (decide (PySem.W.nsIn K mainGlobals "zip" = some none)) && (true))))))))))
def seen_18 (K : PySem.W.Frag) : Bool :=
  (decide (PySem.W.nsIn K mainGlobals "enumerate" = some none)) && (
  (decide (PySem.W.nsIn K mainGlobals "range" = some none)) && (
  (decide (PySem.W.nsIn K mainGlobals "list" = some none)) && (
  (decide (PySem.W.nsIn K mainGlobals "ValueError" = some none)) && (
  (HT.isI (PySem.W.nsIn K mainGlobals "TOP") TOPi) && (
  (HT.isI (PySem.W.nsIn K mainGlobals "NAMES") 12) && (
  (HT.isI (PySem.W.nsIn K mainGlobals "REGISTERS") 4) && (
  (HT.isI (PySem.W.nsIn K mainGlobals "LONGEST") 120) && (
  (HT.isI (PySem.W.nsIn K mainGlobals "CLERKS") 4) && (
  (PySem.W.excIn K (A_xNo K) bmVE "ValueError.__new__") && (true))))))))))
def seen_19 (K : PySem.W.Frag) : Bool :=
  (PySem.W.keepIn K (.ref (A_xNo K))) && (
  (decide (PySem.W.kitCls K (.ref (A_xNo K)) (.ref (A_xNo K)) = some true)) && (
  (decide (PySem.W.kitCls K (.ref (A_xNo K)) (.type "BaseException") = some true)) && (
  (decide (PySem.W.kitOne K (.ref (A_xNo K)) (.ref (A_xEr K)) = some true)) && (
  (decide (PySem.W.kitOne K (.ref (A_xNo K)) (.type "ValueError") = some true)) && (
  (decide (PySem.W.specialIn K (.builtin "object.__class__") "__get__" = some (some (.builtin "getset_descriptor.__get__")))) && (
  (decide (PySem.W.takesIn K (.builtin "object.__class__") = some true)) && (
  (decide (PySem.W.kitCls K (.ref (A_xEr K)) (.type "BaseException") = some true)) && (
  (PySem.W.excIn K (A_xNC K) bmVE "ValueError.__new__") && (
  (PySem.W.keepIn K (.ref (A_xNC K))) && (true))))))))))
def seen_20 (K : PySem.W.Frag) : Bool :=
  (excInI K (A_xNP K) bmVE "ValueError.__new__") && (
  (PySem.W.keepIn K (.ref (A_xNP K))) && (
  (decide (PySem.W.findIn K (.ref (A_xNP K)) "__setattr__" = some (some (.builtin "object.__setattr__")))) && (
  ((PySem.W.clsIn K (A_xNP K)).any (fun cd => onlyExc cd.mro && cd.hasDict)) && (
  (decide (PySem.W.findIn K (.ref (A_xNP K)) "clerk" = some none)) && (
  (decide (PySem.W.findIn K (.ref (A_xNP K)) "place" = some none)) && (
  (decide (PySem.W.findIn K (.ref (A_cPut K)) "__class__" = some (some (.builtin "object.__class__")))) && (
  (decide (PySem.W.mroIn K (A_cPut K) (.type "object") = some true)) && (
  (decide (PySem.W.kitOne K (.ref (A_cPut K)) (.ref (A_cSkip K)) = some false)) && (
  (decide (PySem.W.findIn K (.ref (A_cAdd K)) "__class__" = some (some (.builtin "object.__class__")))) && (true))))))))))
def seen_21 (K : PySem.W.Frag) : Bool :=
  (decide (PySem.W.mroIn K (A_cAdd K) (.type "object") = some true)) && (
  (decide (PySem.W.kitOne K (.ref (A_cAdd K)) (.ref (A_cSkip K)) = some false)) && (
  (decide (PySem.W.findIn K (.ref (A_cSet K)) "__class__" = some (some (.builtin "object.__class__")))) && (
  (decide (PySem.W.mroIn K (A_cSet K) (.type "object") = some true)) && (
  (decide (PySem.W.kitOne K (.ref (A_cSet K)) (.ref (A_cSkip K)) = some false)) && (
  (decide (PySem.W.findIn K (.ref (A_cLook K)) "__class__" = some (some (.builtin "object.__class__")))) && (
  (decide (PySem.W.mroIn K (A_cLook K) (.type "object") = some true)) && (
  (decide (PySem.W.kitOne K (.ref (A_cLook K)) (.ref (A_cSkip K)) = some false)) && (
  (decide (PySem.W.findIn K (.ref (A_cSwap K)) "__class__" = some (some (.builtin "object.__class__")))) && (
  (decide (PySem.W.mroIn K (A_cSwap K) (.type "object") = some true)) && (true))))))))))
def seen_22 (K : PySem.W.Frag) : Bool :=
  (decide (PySem.W.kitOne K (.ref (A_cSwap K)) (.ref (A_cSkip K)) = some false)) && (
  (decide (PySem.W.findIn K (.ref (A_cSkip K)) "__class__" = some (some (.builtin "object.__class__")))) && (
  (decide (PySem.W.mroIn K (A_cSkip K) (.type "object") = some true)) && (
  (decide (PySem.W.kitOne K (.ref (A_cSkip K)) (.ref (A_cSkip K)) = some true)) && (
  (decide (PySem.W.findIn K (.ref (A_cClear K)) "__class__" = some (some (.builtin "object.__class__")))) && (
  (decide (PySem.W.mroIn K (A_cClear K) (.type "object") = some true)) && (
  (decide (PySem.W.kitOne K (.ref (A_cClear K)) (.ref (A_cSkip K)) = some false)) && (
  (decide (PySem.W.findIn K (.ref (A_xNC K)) (Str.ofString "__getattribute__") = some (some (.builtin gaBE)))) && (
  (decide (PySem.W.findIn K (.ref (A_xNC K)) (Str.ofString "__getattr__") = some none)) && (
  (decide (PySem.W.mroIn K (A_xNC K) (.type "BaseException") = some true)) && (true))))))))))
def seen_23 (K : PySem.W.Frag) : Bool :=
  (PySem.W.hasDictIn K (A_xNC K)) && (
  (decide (PySem.W.findIn K (.ref (A_xNC K)) (Str.ofString "__class__") = some (some (.builtin "object.__class__")))) && (
  (decide (PySem.W.mroIn K (A_xNC K) (.type "object") = some true)) && (
  (decide (PySem.W.kitCls K (.ref (A_xNC K)) (.ref (A_xEr K)) = some true)) && (
  (decide (PySem.W.kitOne K (.ref (A_xNC K)) (.ref (A_xNP K)) = some false)) && (
  (decide (PySem.W.kitOne K (.ref (A_xNC K)) (.ref (A_xNC K)) = some true)) && (
  (decide (PySem.W.kitOne K (.ref (A_xNC K)) (.ref (A_xNo K)) = some false)) && (
  (decide (PySem.W.kitOne K (.ref (A_xNC K)) (.ref (A_xNT K)) = some false)) && (
  (decide (PySem.W.kitOne K (.ref (A_xNC K)) (.ref (A_xNK K)) = some false)) && (
  (decide (PySem.W.kitOne K (.ref (A_xNC K)) (.type "ValueError") = some true)) && (true))))))))))
def seen_24 (K : PySem.W.Frag) : Bool :=
  (decide (PySem.W.findIn K (.ref (A_xNP K)) (Str.ofString "__getattribute__") = some (some (.builtin gaBE)))) && (
  (decide (PySem.W.findIn K (.ref (A_xNP K)) (Str.ofString "__getattr__") = some none)) && (
  (decide (PySem.W.mroIn K (A_xNP K) (.type "BaseException") = some true)) && (
  (PySem.W.hasDictIn K (A_xNP K)) && (
  (decide (PySem.W.findIn K (.ref (A_xNP K)) (Str.ofString "__class__") = some (some (.builtin "object.__class__")))) && (
  (decide (PySem.W.mroIn K (A_xNP K) (.type "object") = some true)) && (
  (decide (PySem.W.kitCls K (.ref (A_xNP K)) (.ref (A_xEr K)) = some true)) && (
  (decide (PySem.W.kitOne K (.ref (A_xNP K)) (.ref (A_xNP K)) = some true)) && (
  (decide (PySem.W.kitOne K (.ref (A_xNP K)) (.ref (A_xNC K)) = some false)) && (
  (decide (PySem.W.kitOne K (.ref (A_xNP K)) (.ref (A_xNo K)) = some false)) && (true))))))))))
def seen_25 (K : PySem.W.Frag) : Bool :=
  (decide (PySem.W.kitOne K (.ref (A_xNP K)) (.ref (A_xNT K)) = some false)) && (
  (decide (PySem.W.kitOne K (.ref (A_xNP K)) (.ref (A_xNK K)) = some false)) && (
  (decide (PySem.W.kitOne K (.ref (A_xNP K)) (.type "ValueError") = some true)) && (true)))
def seen (K : PySem.W.Frag) : Bool := seen_0 K && (seen_1 K && (seen_2 K && (seen_3 K && (seen_4 K && (seen_5 K && (seen_6 K && (seen_7 K && (seen_8 K && (seen_9 K && (seen_10 K && (seen_11 K && (seen_12 K && (seen_13 K && (seen_14 K && (seen_15 K && (seen_16 K && (seen_17 K && (seen_18 K && (seen_19 K && (seen_20 K && (seen_21 K && (seen_22 K && (seen_23 K && (seen_24 K && (seen_25 K && true)))))))))))))))))))))))))
def seenF (K : PySem.W.Frag) : List (Option HT.FnP) := [HT.fnP K (A_fW K), HT.fnP K (A_fB K), HT.fnP K (A_fS K), HT.fnP K (A_fO K), HT.fnP K (A_fI K), HT.fnP K (A_fPut K), HT.fnP K (A_fAdd K), HT.fnP K (A_fSet K), HT.fnP K (A_fLook K), HT.fnP K (A_fSwap K), HT.fnP K (A_fSkip K), HT.fnP K (A_fNPI K), HT.fnP K (A_fHC K), HT.fnP K (A_fFI K), HT.fnP K (A_fLO K), HT.fnP K (A_fCA K), HT.fnP K (A_fMI K), HT.fnP K (A_fLS K), HT.fnP K (A_fLN K), HT.fnP K (A_fIN K), HT.fnP K (A_fPA K), HT.fnP K (A_fCH K), HT.fnP K (A_fDU K), HT.fnP K (A_fWO K), HT.fnP K (A_fLaw K)]
def goodF : List (Option HT.FnP) := [(some ("is_whole", "is_whole", defArgs sWhole, .stmts (defBody sWhole), defScope sWhole, mainGlobals, [], .none, builtinsNs) : Option HT.FnP),
  (some ("bounds_of", "bounds_of", defArgs sBounds, .stmts (defBody sBounds), defScope sBounds, mainGlobals, [], .none, builtinsNs) : Option HT.FnP),
  (some ("is_step", "is_step", defArgs sIsStep, .stmts (defBody sIsStep), defScope sIsStep, mainGlobals, [], .none, builtinsNs) : Option HT.FnP),
  (some ("step_of", "step_of", defArgs sStepOf, .stmts (defBody sStepOf), defScope sStepOf, mainGlobals, [], .none, builtinsNs) : Option HT.FnP),
  (some ("__init__", "Step.__init__", defArgs sInit, .stmts (defBody sInit), defScope sInit, mainGlobals, [], .none, builtinsNs) : Option HT.FnP),
  (some ("__init__", "Put.__init__", defArgs sPutI, .stmts (defBody sPutI), defScope sPutI, mainGlobals, [], .none, builtinsNs) : Option HT.FnP),
  (some ("__init__", "Add.__init__", defArgs sAddI, .stmts (defBody sAddI), defScope sAddI, mainGlobals, [], .none, builtinsNs) : Option HT.FnP),
  (some ("__init__", "Set.__init__", defArgs sSetI, .stmts (defBody sSetI), defScope sSetI, mainGlobals, [], .none, builtinsNs) : Option HT.FnP),
  (some ("__init__", "Look.__init__", defArgs sLookI, .stmts (defBody sLookI), defScope sLookI, mainGlobals, [], .none, builtinsNs) : Option HT.FnP),
  (some ("__init__", "Swap.__init__", defArgs sSwapI, .stmts (defBody sSwapI), defScope sSwapI, mainGlobals, [], .none, builtinsNs) : Option HT.FnP),
  (some ("__init__", "Skip.__init__", defArgs sSkipI, .stmts (defBody sSkipI), defScope sSkipI, mainGlobals, [], .none, builtinsNs) : Option HT.FnP),
  (some ("__init__", "NoProgram.__init__", defArgs sNPI, .stmts (defBody sNPI), defScope sNPI, mainGlobals, [], .none, builtinsNs) : Option HT.FnP),
  (some ("has_clerks", "has_clerks", defArgs sHas, .stmts (defBody sHas), defScope sHas, mainGlobals, [], .none, builtinsNs) : Option HT.FnP),
  (some ("fits", "fits", defArgs sFits, .stmts (defBody sFits), defScope sFits, mainGlobals, [], .none, builtinsNs) : Option HT.FnP),
  (some ("look_over", "look_over", defArgs sLookOver, .stmts (defBody sLookOver), defScope sLookOver, mainGlobals, [], .none, builtinsNs) : Option HT.FnP),
  (some ("_law_cell_at", "_law_cell_at", defArgs sCellAt, .stmts (defBody sCellAt), defScope sCellAt, mainGlobals, [], .none, builtinsNs) : Option HT.FnP),
  (some ("_law_mixed", "_law_mixed", defArgs sMixed, .stmts (defBody sMixed), defScope sMixed, mainGlobals, [], .none, builtinsNs) : Option HT.FnP),
  (some ("_law_step", "_law_step", defArgs sLStep, .stmts (defBody sLStep), defScope sLStep, mainGlobals, [], .none, builtinsNs) : Option HT.FnP),
  (some ("_law_none", "_law_none", defArgs sLNone, .stmts (defBody sLNone), defScope sLNone, mainGlobals, [], .none, builtinsNs) : Option HT.FnP),
  (some ("_law_is_none", "_law_is_none", defArgs sIsNone, .stmts (defBody sIsNone), defScope sIsNone, mainGlobals, [], .none, builtinsNs) : Option HT.FnP),
  (some ("_law_parts", "_law_parts", defArgs sParts, .stmts (defBody sParts), defScope sParts, mainGlobals, [], .none, builtinsNs) : Option HT.FnP),
  (some ("_law_changed", "_law_changed", defArgs sChanged, .stmts (defBody sChanged), defScope sChanged, mainGlobals, [], .none, builtinsNs) : Option HT.FnP),
  (some ("_law_due", "_law_due", defArgs sDue, .stmts (defBody sDue), defScope sDue, mainGlobals, [], .none, builtinsNs) : Option HT.FnP),
  (some ("_law_word", "_law_word", defArgs sWord, .stmts (defBody sWord), defScope sWord, mainGlobals, [], .none, builtinsNs) : Option HT.FnP),
  (some ("law", "law", defArgs sLaw, .stmts (defBody sLaw), defScope sLaw, mainGlobals, [], .none, builtinsNs) : Option HT.FnP)]
noncomputable def qv : Program := PySem.W.view PySem.Challenge.rw_traylate_k11_programs_looked_over.prog [0, 2, 3, 4, 5, 6, 7, 9, 10, 11, 12, 13, 14, 15, 16, 17, 18, 19, 20, 21, 22, 23, 24, 26, 27, 28, 29, 31, 32, 33, 34, 35, 36, 37, 38, 39, 40]
def lawPos : Pos := match sLaw with
  | .FunctionDef _ _ _ _ _ _ _ _ _ p => p
  | _ => default
def dl : DefRec := ⟨"law", defArgs sLaw, defBody sLaw, defScope sLaw, lawPos⟩
end TL
open PySem PySem.W PyProof.Rows in
theorem TL.mark_ : True := trivial
section
open PySem PySem.W PyProof.Rows
set_option maxRecDepth 100000 in
set_option maxHeartbeats 0 in
theorem TL.r1 (w : World) (os : OsState) : (HT.ran PySem.Challenge.rw_traylate_k11_programs_looked_over.row.prog w 8512 os).map (fun s => HT.held PySem.Challenge.rw_traylate_k11_programs_looked_over.row.prog w.params s.abs) = some true := by kernel_rfl
set_option maxRecDepth 100000 in
set_option maxHeartbeats 0 in
theorem TL.r2 (w : World) (os : OsState) : (HT.ran PySem.Challenge.rw_traylate_k11_programs_looked_over.row.prog w 8512 os).map (fun s => PySem.W.openSeen TL.qv [] (importedModules PySem.Challenge.rw_traylate_k11_programs_looked_over.row.prog.main.body) (fun s => PySem.W.xlAt TL.qv [] s && PySem.W.recOk PySem.Challenge.rw_traylate_k11_programs_looked_over.row.records s) true s.abs) = some (PySem.W.openGood TL.qv []) := by kernel_rfl
set_option maxRecDepth 100000 in
set_option maxHeartbeats 0 in
theorem TL.r3 (w : World) (os : OsState) : (HT.ran PySem.Challenge.rw_traylate_k11_programs_looked_over.row.prog w 8512 os).map (fun s => (HT.kHook2 (fun K => (TL.seen K, TL.seenF K)) (true, TL.goodF)).obs s.abs) = some (true, TL.goodF) := by kernel_rfl
end
set_option genSizeOf false
noncomputable section
-- CHANGE: your row's module here, as the last of these rows
/-! THE HAND LAYER, for ints, bools, texts, own classes, LISTS and tuples (index, slices, in, append, pop ..), calls, loops. Paste it whole ahead of your own text; what your proof does not reach may be deleted. -/
namespace L2
open PySem PySem.Spec PyProof.Rows

/-- a key: an int or a str -/
abbrev Key := Sum Int Str
def keyIs : Key → Value → Bool
  | .inl k, v => Value.isInt k v
  | .inr x, v => Value.isStrOf x v
def keyH (w : World) : Key → Int
  | .inl k => hashInt k
  | .inr x => hashStr w x
theorem keyIs_shape : ∀ {k : Key} {v : Value}, keyIs k v = true → (∃ i t, k = Sum.inl i ∧ v = Value.int i t) ∨ (∃ x t, k = Sum.inr x ∧ v = Value.str x t)
  | .inl i, v, h => by
    obtain ⟨t, e⟩ := Value.isInt_shape (k := i) (v := v) h
    exact .inl ⟨i, t, rfl, e⟩
  | .inr x, v, h => by
    obtain ⟨t, e⟩ := Value.isStrOf_shape (x := x) (v := v) h
    exact .inr ⟨x, t, rfl, e⟩
theorem keyIs_int (i : Int) (t : Tok) : keyIs (.inl i) (.int i t) = true := by simp [keyIs, Value.isInt]
theorem keyIs_str (x : Str) (t : Tok) : keyIs (.inr x) (.str x t) = true := by simp [keyIs, Value.isStrOf]
theorem key_ll (a b : Int) : decide ((Sum.inl a : Key) = Sum.inl b) = (a == b) := by
  by_cases e : a = b
  · subst e; simp
  · have h : ¬ (Sum.inl a : Key) = Sum.inl b := fun q => e (Sum.inl.inj q)
    rw [decide_eq_false h]
    exact (beq_eq_false_iff_ne.mpr e).symm
theorem key_rr (a b : Str) : decide ((Sum.inr a : Key) = Sum.inr b) = decide (a = b) := by
  by_cases e : a = b
  · subst e; simp
  · have h : ¬ (Sum.inr a : Key) = Sum.inr b := fun q => e (Sum.inr.inj q)
    rw [decide_eq_false h, decide_eq_false e]
theorem key_lr (a : Int) (b : Str) : decide ((Sum.inl a : Key) = Sum.inr b) = false := decide_eq_false (fun q => nomatch q)
theorem key_rl (a : Str) (b : Int) : decide ((Sum.inr a : Key) = Sum.inl b) = false := decide_eq_false (fun q => nomatch q)

def mixKind (prog : Program) (w : World) : PySem.KeyKind prog w Key where
  is := keyIs
  hash := keyH w
  inj := fun v a b ha hb => by
    rcases keyIs_shape ha with ⟨i, t, rfl, rfl⟩ | ⟨x, t, rfl, rfl⟩
    · rcases keyIs_shape hb with ⟨j, u, rfl, e⟩ | ⟨y, u, rfl, e⟩
      · injection e with e1 _; rw [e1]
      · exact nomatch e
    · rcases keyIs_shape hb with ⟨j, u, rfl, e⟩ | ⟨y, u, rfl, e⟩
      · exact nomatch e
      · injection e with e1 _; rw [e1]
  byValue := fun k v h => by
    rcases keyIs_shape h with ⟨i, t, rfl, rfl⟩ | ⟨x, t, rfl, rfl⟩ <;> rfl
  pyHash := fun hv h => by
    rcases keyIs_shape hv with ⟨i, t, rfl, rfl⟩ | ⟨x, t, rfl, rfl⟩
    · exact wpAny_pyHash_int h
    · exact wpAny_pyHash_str h
  eqBool := fun hu hv h => by
    rcases keyIs_shape hu with ⟨i, t, rfl, rfl⟩ | ⟨x, t, rfl, rfl⟩
    · rcases keyIs_shape hv with ⟨j, u, rfl, rfl⟩ | ⟨y, u, rfl, rfl⟩
      · rw [key_ll] at h; exact wpAny_eqBool_int h
      · rw [key_lr] at h; exact SeqAt.EqAt.int_str i t y u _ _ _ _ h
    · rcases keyIs_shape hv with ⟨j, u, rfl, rfl⟩ | ⟨y, u, rfl, rfl⟩
      · rw [key_rl] at h; exact SeqAt.EqAt.str_int x t j u _ _ _ _ h
      · rw [key_rr] at h; exact wpAny_eqBool_str h
  «strs» := fun k x t v h => by
    rcases keyIs_shape h with ⟨i, u, rfl, e⟩ | ⟨y, u, rfl, e⟩
    · exact nomatch e
    · injection e with e1 _
      subst e1
      cases v <;> rfl

theorem mixKind_is (prog : Program) (w : World) (k : Key) (v : Value) : (mixKind prog w).is k v = keyIs k v := rfl
theorem mixKind_int (prog : Program) (w : World) (i : Int) (t : Tok) : (mixKind prog w).is (.inl i) (.int i t) = true := keyIs_int i t
theorem mixKind_str (prog : Program) (w : World) (x : Str) (t : Tok) : (mixKind prog w).is (.inr x) (.str x t) = true := keyIs_str x t
end L2

namespace L2
open PySem PySem.Spec PyProof.Rows

/-- a value, without the heap -/
inductive V where
  | non | bl (b : Bool) | int (i : Int) | str (x : Str) | byt (b : Array UInt8) | flt (b : UInt64) | ref (a : Addr) | ty (n : String)
  deriving DecidableEq

def RelV : V → Value → Prop
  | .non, u => u = Value.none
  | .bl b, u => u = Value.bool b
  | .int i, u => ∃ t, u = Value.int i t
  | .str x, u => ∃ t, u = Value.str x t
  | .byt b, u => ∃ t, u = Value.bytes b t
  | .flt b, u => ∃ t, u = Value.float b t
  | .ref a, u => u = Value.ref a
  | .ty n, u => u = Value.type n

abbrev Vals : List V → List Value → Prop := Paired RelV
theorem Vals.length {xs : List V} {us : List Value} (r : Vals xs us) : xs.length = us.length := Paired.length r
theorem Vals.get : ∀ {xs : List V} {us : List Value} {i : Nat} {x : V}, Vals xs us → xs[i]? = some x → ∃ u, us[i]? = some u ∧ RelV x u
  | _, _, _, _, .nil, e => by simp at e
  | _, _, 0, _, .cons r _, e => by simp at e; subst e; exact ⟨_, rfl, r⟩
  | _, _, i + 1, x, .cons _ t, e => by
    obtain ⟨u, h1, h2⟩ := Vals.get (i := i) (x := x) t (by simpa using e)
    exact ⟨u, by simpa using h1, h2⟩
theorem Vals.set {x : V} {u : Value} (r : RelV x u) : ∀ {xs : List V} {us : List Value} (i : Nat), Vals xs us → Vals (xs.set i x) (us.set i u)
  | _, _, _, .nil => .nil
  | _, _, 0, .cons _ t => .cons r t
  | _, _, i + 1, .cons q t => .cons q (Vals.set r i t)
theorem Vals.append : ∀ {xs ys : List V} {us ws : List Value}, Vals xs us → Vals ys ws → Vals (xs ++ ys) (us ++ ws)
  | _, _, _, _, .nil, s => s
  | _, _, _, _, .cons r t, s => .cons r (Vals.append t s)
theorem Vals.take : ∀ {xs : List V} {us : List Value} (n : Nat), Vals xs us → Vals (xs.take n) (us.take n)
  | _, _, 0, _ => .nil
  | _, _, _ + 1, .nil => .nil
  | _, _, n + 1, .cons r t => .cons r (Vals.take n t)
theorem Vals.drop : ∀ {xs : List V} {us : List Value} (n : Nat), Vals xs us → Vals (xs.drop n) (us.drop n)
  | _, _, 0, r => r
  | _, _, _ + 1, .nil => .nil
  | _, _, n + 1, .cons _ t => Vals.drop n t
theorem Vals.none_of : ∀ {xs : List V} {us : List Value} {i : Nat}, Vals xs us → xs[i]? = none → us[i]? = none := fun {xs us i} r e => by
  have h1 := r.length
  have h2 : xs.length ≤ i := List.getElem?_eq_none_iff.mp e
  exact List.getElem?_eq_none_iff.mpr (by omega)

def RelO : Option V → Option Value → Prop
  | some v, some u => RelV v u
  | none, none => True
  | _, _ => False
def KV {κ : Type} : List (κ × V) → List (κ × Value) → Prop := Paired fun (p : κ × V) (q : κ × Value) => p.1 = q.1 ∧ RelV p.2 q.2

/-- a key of a dict (00_mix): an int or a text -/
def kV : Key → V
  | .inl i => .int i
  | .inr x => .str x

/-- what stands at a tracked address -/
inductive HO where
  /-- a list -/
  | lst (xs : List V)
  /-- a tuple (never changes) -/
  | tup (xs : List V)
  /-- a dict whose keys are ints and texts; one whose keys are tuples of ints and texts (the empty one is both) -/
  | dK (kvs : List (Key × V)) | dT (kvs : List (List Key × V))
  /-- a set of ints: its members, its size -/
  | set (S : Int → Bool) (n : Nat)
  /-- an instance of the class at C, its dict at dx, its attributes -/
  | ins (C dx : Addr) (fs : List (Str × V))
  /-- the dict of the instance at x -/
  | own (x : Addr)
  /-- the dict of an exception -/
  | xd (fs : List (Str × V))
  /-- a bound method, f of x -/
  | met (f x : Addr)
  /-- a range object lo, lo + 1, .. below hi -/
  | rng (lo hi : Int)
  /-- a thing that is known to the object (the script; a dict while a loop walks it): read, never written while it is so -/
  | frz (o : Obj) (u : HO)
  /-- a code object's table -/
  | tbl (ps : Array Value)
  /-- any other thing, by what is true of its one object (a def of one's own: SetO a S n := HO.ext fun h => ..) -/
  | ext (φ : Heap → Prop)

abbrev Hp := Addr → Option HO
def upd (H : Hp) (a : Addr) (o : HO) : Hp := fun b => if b = a then some o else H b
theorem upd_same {H : Hp} {a : Addr} {o : HO} : upd H a o a = some o := by unfold upd; rw [if_pos rfl]
theorem upd_ne {H : Hp} {a b : Addr} {o : HO} (h : b ≠ a) : upd H a o b = H b := by unfold upd; rw [if_neg h]
theorem upd_upd {H : Hp} {a : Addr} {o u : HO} : upd (upd H a o) a u = upd H a u := by
  funext b; unfold upd; split <;> rfl
/-- two objects of different content stand apart -/
theorem ne_of {H : Hp} {a b : Addr} {o u : HO} (h : H a = some o) (h' : H b = some u) (d : o ≠ u) : a ≠ b := by
  intro e; subst e; rw [h] at h'; exact d (Option.some.inj h')
theorem ne_of_none {H : Hp} {a b : Addr} {o : HO} (h : H a = some o) (h' : H b = none) : a ≠ b := by
  intro e; subst e; rw [h] at h'; cases h'

section
variable (P : Program) (w : World)
def ObjOk (H : Hp) (h : Heap) (a : Addr) : HO → Prop
  | .lst xs => xs.length ≤ sizeLine ∧ ∃ (its : List Value) (n : Nat), Vals xs its ∧ h.get? a = some { cls := .type "list", data := .seq its.toArray n }
  | .tup xs => xs.length ≤ sizeLine ∧ ∃ its : List Value, Vals xs its ∧ IsTup h a its.toArray
  | .dK kvs => kvs.length ≤ sizeLine ∧ (a == sysModules) = false ∧ ∃ vs, KV kvs vs ∧ h.DictOf (mixKind P w) a vs
  | .dT kvs => kvs.length ≤ sizeLine ∧ (a == sysModules) = false ∧ ∃ xs : List (List Key × Addr × Value),
      Paired (fun (p : List Key × V) (q : List Key × Addr × Value) => p.1 = q.1 ∧ H q.2.1 = some (.tup (p.1.map kV)) ∧ RelV p.2 q.2.2) kvs xs ∧
      ∃ o es ep, h.get? a = some o ∧ o.ExactDict ∧ o.data = .dict es ep ∧ es.toList = xs.map (entryOfKey (tupleKind (mixKind P w))) ∧ (xs.map (·.1)).Nodup
  | .set S n => h.SetOf (intKind P w) a S n
  | .ins C dx fs => H dx = some (.own a) ∧ fs.length ≤ 1000 ∧ dx ≠ a ∧ h.get? a = some (PySem.W.instObj C dx) ∧
      ∃ mA, h.Ns1 dx mA ∧ (∀ f, RelO (fs.lookup f) (mA f)) ∧ PySem.Within mA (fs.map (·.1))
  | .own _ => ∃ o, h.get? a = some o
  | .xd fs => ∃ mA, h.Ns1 a mA ∧ ∀ f, RelO (fs.lookup f) (mA f)
  | .rng lo hi => ∃ t u v, h.get? a = some { cls := .type "range", data := .fields #[.int lo t, .int hi u, .int 1 v] }
  | .frz o u => h.get? a = some o ∧ ObjOk H h a u
  | .tbl ps => h.get? a = some { cls := .none, data := .fields ps }
  | .met f x => h.get? a = some (PySem.W.methodObj (.ref f) (.ref x))
  | .ext φ => φ h ∧ (∃ o, h.get? a = some o) ∧ ∀ h1 h2 : Heap, φ h1 → (∀ o, h1.get? a = some o → h2.get? a = some o) → φ h2
/-- the abstract heap is held -/
def HOk (H : Hp) (h : Heap) : Prop := ∀ a o, H a = some o → ObjOk P w H h a o
end

section
variable {P : Program} {w : World} {H H' : Hp} {h h' : Heap} {a : Addr} {o : HO}
theorem ObjOk.lt (x : ObjOk P w H h a o) : a < h.objs.size := by
  cases o with
  | lst xs => obtain ⟨_, _, _, _, e⟩ := x; exact Heap.lt_size e
  | tup xs => obtain ⟨_, _, _, p⟩ := x; exact p.lt
  | dK kvs => obtain ⟨_, _, _, _, o, _, _, e, _⟩ := x; exact Heap.lt_size e
  | dT kvs => obtain ⟨_, _, _, _, o, _, _, e, _⟩ := x; exact Heap.lt_size e
  | set S n => obtain ⟨o, _, _, _, e, _⟩ := x; exact Heap.lt_size e
  | ins C dx fs => obtain ⟨_, _, _, e, _⟩ := x; exact Heap.lt_size e
  | own y => obtain ⟨_, e⟩ := x; exact Heap.lt_size e
  | xd fs => obtain ⟨_, ⟨_, _, _, e, _⟩, _⟩ := x; exact Heap.lt_size e
  | rng lo hi => obtain ⟨_, _, _, e⟩ := x; exact Heap.lt_size e
  | frz ob u => obtain ⟨e, _⟩ := x; exact Heap.lt_size e
  | tbl ps => exact Heap.lt_size (show h.get? a = some _ from x)
  | met f y => exact Heap.lt_size (show h.get? a = some _ from x)
  | ext φ => obtain ⟨_, ⟨_, e⟩, _⟩ := x; exact Heap.lt_size e
theorem Paired.mapP {α β : Type} {F G : α → β → Prop} : ∀ {l₁ : List α} {l₂ : List β}, Paired F l₁ l₂ → (∀ a b, F a b → G a b) → Paired G l₁ l₂
  | _, _, .nil, _ => .nil
  | _, _, .cons r t, f => .cons (f _ _ r) (Paired.mapP t f)
theorem Paired.imp' {α β : Type} {F G : α → β → Prop} (f : ∀ a b, F a b → G a b) {l₁ : List α} {l₂ : List β} (r : Paired F l₁ l₂) : Paired G l₁ l₂ := Paired.mapP r f
/-- what an object's description leans on: its own object, its own dict, the tuples -/
theorem ObjOk.stay (x : ObjOk P w H h a o) (k : ∀ b u, (b = a ∨ H b = some (.own a)) → h.get? b = some u → h'.get? b = some u)
    (ho : ∀ b, H b = some (.own a) → H' b = some (.own a)) (ht : ∀ b xs, H b = some (.tup xs) → H' b = some (.tup xs)) : ObjOk P w H' h' a o := by
  induction o with
  | lst xs => obtain ⟨z, its, n, r, e⟩ := x; exact ⟨z, its, n, r, k _ _ (.inl rfl) e⟩
  | tup xs => obtain ⟨z, its, r, ob, e, c⟩ := x; exact ⟨z, its, r, ob, k _ _ (.inl rfl) e, c⟩
  | dK kvs => obtain ⟨z, y, vs, r, ob, es, ep, e, c⟩ := x; exact ⟨z, y, vs, r, ob, es, ep, k _ _ (.inl rfl) e, c⟩
  | dT kvs =>
    obtain ⟨z, y, xs, r, ob, es, ep, e, c⟩ := x
    exact ⟨z, y, xs, Paired.mapP r fun p q z => ⟨z.1, ht _ _ z.2.1, z.2.2⟩, ob, es, ep, k _ _ (.inl rfl) e, c⟩
  | set S n => obtain ⟨ob, es, ep, t, e, c⟩ := x; exact ⟨ob, es, ep, t, k _ _ (.inl rfl) e, c⟩
  | ins C dx fs =>
    obtain ⟨d, z, ne, e, mA, ⟨od, es, ep, e2, c⟩, r⟩ := x
    exact ⟨ho _ d, z, ne, k _ _ (.inl rfl) e, mA, ⟨od, es, ep, k _ _ (.inr d) e2, c⟩, r⟩
  | own y => obtain ⟨ob, e⟩ := x; exact ⟨ob, k _ _ (.inl rfl) e⟩
  | xd fs => obtain ⟨mA, ⟨od, es, ep, e, c⟩, r⟩ := x; exact ⟨mA, ⟨od, es, ep, k _ _ (.inl rfl) e, c⟩, r⟩
  | rng lo hi => obtain ⟨t, u, v, e⟩ := x; exact ⟨t, u, v, k _ _ (.inl rfl) e⟩
  | frz ob u ih => obtain ⟨e, q⟩ := x; exact ⟨k _ _ (.inl rfl) e, ih q⟩
  | tbl ps =>
    have e : h.get? a = some { cls := .none, data := .fields ps } := x
    show h'.get? a = some { cls := .none, data := .fields ps }
    exact k a _ (.inl rfl) e
  | met f y =>
    have e : h.get? a = some (PySem.W.methodObj (.ref f) (.ref y)) := x
    show h'.get? a = some (PySem.W.methodObj (.ref f) (.ref y))
    exact k a _ (.inl rfl) e
  | ext φ => obtain ⟨p, ⟨o, e⟩, st⟩ := x; exact ⟨st _ _ p fun o q => k _ _ (.inl rfl) q, ⟨o, k _ _ (.inl rfl) e⟩, st⟩
theorem HOk.lt (x : HOk P w H h) (e : H a = some o) : a < h.objs.size := (x a o e).lt
theorem HOk.fresh (x : HOk P w H h) (e : h.objs.size ≤ a) : H a = none := by
  cases q : H a with
  | none => rfl
  | some u => exact absurd (Nat.lt_of_lt_of_le (x.lt q) e) (Nat.lt_irrefl _)
/-- every object of the heap is kept -/
theorem HOk.kept (x : HOk P w H h) (k : ∀ b u, h.get? b = some u → h'.get? b = some u) : HOk P w H h' := fun a o e =>
  (x a o e).stay (fun b u _ q => k b u q) (fun _ q => q) fun _ _ q => q
/-- a new object is laid and tracked -/
theorem HOk.laid (x : HOk P w H h) (k : ∀ b u, h.get? b = some u → h'.get? b = some u) (hp : h.objs.size ≤ a) (new : ObjOk P w (upd H a o) h' a o) : HOk P w (upd H a o) h' := fun b u e => by
  have hn := x.fresh hp
  by_cases hb : b = a
  · subst hb; rw [upd_same] at e; cases e; exact new
  · rw [upd_ne hb] at e
    exact (x b u e).stay (fun c v _ q => k c v q) (fun c q => by rw [upd_ne (ne_of_none q hn)]; exact q) fun c xs q => by rw [upd_ne (ne_of_none q hn)]; exact q
end

/-- what may be read as u: it is u, or a known u -/
def Rd (H : Hp) (a : Addr) (u : HO) : Prop := H a = some u ∨ ∃ o, H a = some (.frz o u)
theorem Rd.of {H : Hp} {a : Addr} {u : HO} (h : H a = some u) : Rd H a u := .inl h
theorem Rd.ok {P : Program} {w : World} {H : Hp} {h : Heap} {a : Addr} {u : HO} (r : Rd H a u) (x : HOk P w H h) : ObjOk P w H h a u := by
  rcases r with r | ⟨o, r⟩
  · exact x a u r
  · obtain ⟨_, q⟩ := x a _ r
    exact q
/-- what may be written -/
def Mut : Option HO → Prop
  | some (.lst _) => True
  | some (.dK _) => True
  | some (.dT _) => True
  | some (.set _ _) => True
  | some (.ins _ _ _) => True
  | some (.ext _) => True
  | _ => False
section
variable {P : Program} {w : World} {H : Hp} {h h' : Heap} {x e : Addr} {o' : HO}
/-- the object at e is changed: x itself, or the dict of the instance x -/
theorem HOk.write (ok : HOk P w H h) (mu : Mut (H x)) (he : e = x ∨ H e = some (.own x)) (k : ∀ b u, b ≠ e → h.get? b = some u → h'.get? b = some u) (heo : ∃ u, h'.get? e = some u)
    (new : ObjOk P w (upd H x o') h' x o') : HOk P w (upd H x o') h' := fun b u q => by
  have nown : ∀ c y, H c = some (.own y) → c ≠ x := fun c y r z => by subst z; rw [r] at mu; exact mu
  have ntup : ∀ c xs, H c = some (.tup xs) → c ≠ x := fun c xs r z => by subst z; rw [r] at mu; exact mu
  by_cases hb : b = x
  · subst hb; rw [upd_same] at q; cases q; exact new
  · rw [upd_ne hb] at q
    by_cases hbe : b = e
    · have q' : H b = some (.own x) := by
        rcases he with z | z
        · exact absurd (hbe.trans z) hb
        · rw [hbe]; exact z
      rw [q] at q'; cases q'
      obtain ⟨v, hv⟩ := heo
      exact ⟨v, by rw [hbe]; exact hv⟩
    · refine (ok b u q).stay (fun c v hc r => k c v ?_ r) (fun c r => by rw [upd_ne (nown c b r)]; exact r) fun c xs r => by rw [upd_ne (ntup c xs r)]; exact r
      rcases hc with rfl | hc
      · exact hbe
      · rintro rfl
        rcases he with z | z
        · exact nown c b hc z
        · rw [hc] at z; cases z; exact hb rfl
end

/-! ### kept unless tracked; of the frames at fs (the callers') the slots may change (an exception that passes writes there); of the records at ex (iterators) nothing is said -/
structure Un (fs ex : List Addr) (H H' : Hp) (h h' : Heap) : Prop where
  keep : ∀ b o, h.get? b = some o → H b = none → b ∉ fs → b ∉ ex → h'.get? b = some o
  slot : ∀ b o, h.get? b = some o → H b = none → b ∈ fs → b ∉ ex → ∃ sl, h'.get? b = some { o with slots := sl }
  free : ∀ b o, h.get? b = some o → H b = none → b ∉ ex → H' b = none
  there : ∀ b o, h.get? b = some o → b ∉ ex → ∃ o', h'.get? b = some o'
  tups : ∀ b xs, H b = some (.tup xs) → H' b = some (.tup xs)
  frzs : ∀ b o u, H b = some (.frz o u) → H' b = some (.frz o u)
  tbls : ∀ b ps, H b = some (.tbl ps) → ∃ more, H' b = some (.tbl (ps ++ more))
section
variable {fs fs' ex ex' : List Addr} {H H1 H2 : Hp} {h h1 h2 h' : Heap} {a x e : Addr} {o : HO}
theorem Un.any (u : Un fs ex H H1 h h1) {b : Addr} {ob : Obj} (q : h.get? b = some ob) (n : H b = none) (hx : b ∉ ex) : ∃ sl, h1.get? b = some { ob with slots := sl } := by
  by_cases hb : b ∈ fs
  · exact u.slot b ob q n hb hx
  · exact ⟨ob.slots, u.keep b ob q n hb hx⟩
theorem Un.trans (a : Un fs ex H H1 h h1) (b : Un fs ex H1 H2 h1 h2) : Un fs ex H H2 h h2 where
  keep := fun c ob q n hc hx => b.keep c ob (a.keep c ob q n hc hx) (a.free c ob q n hx) hc hx
  slot := fun c ob q n hc hx => by
    obtain ⟨sl, e1⟩ := a.slot c ob q n hc hx
    obtain ⟨sl', e2⟩ := b.slot c _ e1 (a.free c ob q n hx) hc hx
    exact ⟨sl', e2⟩
  free := fun c ob q n hx => by
    obtain ⟨o', e1⟩ := a.there c ob q hx
    exact b.free c o' e1 (a.free c ob q n hx) hx
  there := fun c ob q hx => by
    obtain ⟨o', e1⟩ := a.there c ob q hx
    exact b.there c o' e1 hx
  tups := fun c xs q => b.tups c xs (a.tups c xs q)
  frzs := fun c ob xs q => b.frzs c ob xs (a.frzs c ob xs q)
  tbls := fun c ps q => by
    obtain ⟨m1, e1⟩ := a.tbls c ps q
    obtain ⟨m2, e2⟩ := b.tbls c _ e1
    exact ⟨m1 ++ m2, by rw [e2, Array.append_assoc]⟩
theorem Un.kept (k : ∀ b u, h.get? b = some u → h'.get? b = some u) : Un fs ex H H h h' :=
  ⟨fun b ob q _ _ _ => k b ob q, fun b ob q _ _ _ => ⟨ob.slots, k b ob q⟩, fun _ _ _ n _ => n, fun b ob q _ => ⟨ob, k b ob q⟩, fun _ _ q => q, fun _ _ _ q => q, fun _ ps q => ⟨#[], by rw [q]; simp⟩⟩
theorem Un.refl : Un fs ex H H h h := Un.kept fun _ _ q => q
theorem Un.laid (k : ∀ b u, h.get? b = some u → h'.get? b = some u) (hp : h.objs.size ≤ a) (hn : H a = none) : Un fs ex H (upd H a o) h h' where
  keep := fun b u q _ _ _ => k b u q
  slot := fun b u q _ _ _ => ⟨u.slots, k b u q⟩
  free := fun b u q n _ => by rw [upd_ne (Nat.ne_of_lt (Nat.lt_of_lt_of_le (Heap.lt_size q) hp))]; exact n
  there := fun b u q _ => ⟨u, k b u q⟩
  tups := fun b xs q => by rw [upd_ne (ne_of_none q hn)]; exact q
  frzs := fun b u xs q => by rw [upd_ne (ne_of_none q hn)]; exact q
  tbls := fun b ps q => ⟨#[], by rw [upd_ne (ne_of_none q hn), q]; simp⟩
theorem Un.write (mu : Mut (H x)) (he : e = x ∨ H e = some (.own x)) (k : ∀ b u, b ≠ e → h.get? b = some u → h'.get? b = some u) (heo : ∃ u, h'.get? e = some u) : Un fs ex H (upd H x o) h h' := by
  have hx : ∀ b, H b = none → b ≠ x := fun b n z => by subst z; rw [n] at mu; exact mu
  have hb : ∀ b, H b = none → b ≠ e := fun b n z => by
    subst z
    rcases he with r | r
    · exact hx b n r
    · rw [n] at r; cases r
  have hm : ∀ b u, H b = some u → ¬ Mut (some u) → b ≠ x := fun b u q nm z => by subst z; rw [q] at mu; exact nm mu
  refine ⟨fun b u q n _ _ => k b u (hb b n) q, fun b u q n _ _ => ⟨u.slots, k b u (hb b n) q⟩, fun b u q n _ => by rw [upd_ne (hx b n)]; exact n, fun b u q _ => ?_,
    fun b xs q => by rw [upd_ne (hm b _ q fun z => z)]; exact q, fun b u xs q => by rw [upd_ne (hm b _ q fun z => z)]; exact q, fun b ps q => ⟨#[], by rw [upd_ne (hm b _ q fun z => z), q]; simp⟩⟩
  by_cases hbe : b = e
  · subst hbe; exact heo
  · exact ⟨u, k b u hbe q⟩
theorem Un.mono (u : Un fs ex H H1 h h1) (hs : ∀ b ∈ fs, b ∈ fs') (hx : ∀ b ∈ ex, b ∈ ex') : Un fs' ex' H H1 h h1 :=
  ⟨fun b ob q n hb he => u.keep b ob q n (fun z => hb (hs b z)) fun z => he (hx b z), fun _ _ q n _ he => u.any q n fun z => he (hx _ z), fun b ob q n he => u.free b ob q n fun z => he (hx b z), fun b ob q he => u.there b ob q fun z => he (hx b z), u.tups, u.frzs, u.tbls⟩
end

/-! ### the heap without what is tracked -/
def trk (h : Heap) (H : Hp) : List Addr := (List.range h.objs.size).filter fun a => (H a).isSome
def hidT (h : Heap) (H : Hp) : Heap := PySem.W.hideAll h (trk h H)
theorem hidT_size (h : Heap) (H : Hp) : (hidT h H).objs.size = h.objs.size := PySem.W.hideAll_size _ _
theorem hidT_get {h : Heap} {H : Hp} {b : Addr} {o : Obj} (e : h.get? b = some o) (n : H b = none) : (hidT h H).get? b = some o :=
  PySem.W.hideAll_get _ e fun hm => by
    have q : (H b).isSome = true := (List.mem_filter.mp hm).2
    rw [n] at q; simp at q
theorem of_hidT {h : Heap} {H : Hp} {b : Addr} {o : Obj} (e : (hidT h H).get? b = some o) : h.get? b = some o ∧ H b = none := by
  have e' : h.get? b = some o := PySem.W.of_hideAll (trk h H) e
  refine ⟨e', ?_⟩
  cases q : H b with
  | none => rfl
  | some x =>
    have hm : b ∈ trk h H := List.mem_filter.mpr ⟨List.mem_range.mpr (Heap.lt_size e'), by simp [q]⟩
    have z : (hidT h H).get? b = none := PySem.W.hideAll_none (trk h H) hm
    rw [z] at e; cases e

/-! ### OpenK's ledger, filled with every new object but one -/
def allNews (g h : Heap) (L : Addr) : List (Addr × Obj) := (List.range h.objs.size).filterMap fun a => if a = L ∨ (g.get? a).isSome = true then none else (h.get? a).map fun o => (a, o)
theorem mem_allNews {g h : Heap} {L a : Addr} {o : Obj} (h1 : a ≠ L) (h2 : g.get? a = none) (h3 : h.get? a = some o) : (a, o) ∈ allNews g h L :=
  List.mem_filterMap.mpr ⟨a, List.mem_range.mpr (Heap.lt_size h3), by simp [h1, h2, h3]⟩
theorem of_mem_allNews {g h : Heap} {L : Addr} {p : Addr × Obj} (hp : p ∈ allNews g h L) : p.1 ≠ L ∧ g.get? p.1 = none ∧ h.get? p.1 = some p.2 := by
  obtain ⟨b, _, e⟩ := List.mem_filterMap.mp hp
  split at e
  · cases e
  · rename_i hn
    cases q : h.get? b with
    | none => rw [q] at e; simp at e
    | some u =>
      rw [q] at e
      simp only [Option.map_some, Option.some.injEq] at e
      subst e
      refine ⟨fun z => hn (.inl z), ?_, q⟩
      show g.get? b = none
      cases r : g.get? b with
      | none => rfl
      | some v => exact (hn (.inr (by simp [r]))).elim
def rest (g h : Heap) (L d : Addr) : List (Addr × Obj) := (allNews g h L).filter fun p => decide (p.1 ≠ d)
theorem rest_ne {g h : Heap} {L d : Addr} : ∀ p ∈ rest g h L d, p.1 ≠ d := fun p hp => of_decide_eq_true (List.mem_filter.mp hp).2
theorem mem_rest {g h : Heap} {L d a : Addr} {o : Obj} (h1 : a ≠ L) (h2 : g.get? a = none) (h3 : h.get? a = some o) (h4 : a ≠ d) : (a, o) ∈ rest g h L d :=
  List.mem_filter.mpr ⟨mem_allNews h1 h2 h3, decide_eq_true h4⟩
theorem news_all {g h : Heap} {L : Addr} : News g L h (allNews g h L) := fun p hp => let ⟨a, b, c⟩ := of_mem_allNews hp; ⟨c, a, b⟩
theorem news_at {g h : Heap} {L d : Addr} {o : Obj} (h1 : d ≠ L) (h2 : g.get? d = none) (h3 : h.get? d = some o) : News g L h ((d, o) :: rest g h L d) := fun p hp => by
  rcases List.mem_cons.mp hp with rfl | hp
  · exact ⟨h3, h1, h2⟩
  · exact news_all p (List.mem_filter.mp hp).1
/-- behind a rule that changed d alone: all else but the frame is kept -/
theorem kept_of_news {g h h' : Heap} {L d : Addr} {m : Str → Option Value} (k : ∀ b o, g.get? b = some o → h.get? b = some o) (F : Fr g L h' m) (N : News g L h' (rest g h L d)) :
    ∀ b o, b ≠ L → b ≠ d → h.get? b = some o → h'.get? b = some o := fun b o h1 h2 e => by
  cases q : g.get? b with
  | some u =>
    have := k b u q
    rw [e] at this; cases this
    exact F.keep b _ q
  | none => exact (N (b, o) (mem_rest h1 q e h2)).1
end L2

namespace L2
open PySem PySem.Spec PyProof.Rows

/-- the module's facts, over the base: the heap at the law's entry without what is tracked there -/
structure Mod (K : PySem.W.Frag) (mg : Str → Option Value) (base : Heap) : Prop where
  kin : K.In base
  glob : base.Ns mainGlobals mg
  blt : ∃ mb, base.Ns builtinsNs mb ∧ ∀ x : Str, x ≠ "__name__" → mb x = bootBuiltins x
  nolimit : base.NoLimit

/-- the context: a def's body (or a comprehension's block) running. base: fixed through the whole law; s₀, H₀: the entry; outer: the frames whose slots others may change (a def's callers); stack: all frames that run;
   ex: iterators that were made ahead of the entry and are walked here (a comprehension's); fn: the names whose cells were made at the entry (a def: all; a comprehension's block: its own); calm: not within an except suite; pn: pins that every state bears; xe: what is wanted of an exception that leaves the code -/
structure Cx where
  prog : Program
  w : World
  K : PySem.W.Frag
  mg : Str → Option Value
  base : Heap
  A : Around
  N : List Str
  s₀ : Shared
  H₀ : Hp
  env : Env
  outer : List Env
  stack : List Env
  ex : List Addr
  fn : Str → Bool
  calm : Bool
  pn : List (Addr × Obj)
  xe : Value → Shared → Prop
/-- the callers' frames -/
def frs (l : List Env) : List Addr := l.filterMap (·.frame)
abbrev Cx.fs (X : Cx) : List Addr := frs X.outer

def Vis (sc : Scope) (x : Str) : Prop := sc.names.lookup x = some .local ∨ sc.names.lookup x = some .cell ∨ sc.names.lookup x = some .free
def Loc (sc : Scope) (x : Str) : Prop := sc.names.lookup x = some .local ∨ sc.names.lookup x = some .cell
def Look (env : Env) (h : Heap) (m : Str → Option Value) (x : Str) (u : Value) : Prop :=
  (env.kindOf x = some .local ∧ m x = some u) ∨ ((env.kindOf x = some .cell ∨ env.kindOf x = some .free) ∧ ∃ c, env.cells.lookup x = some c ∧ h.IsCell c (some u))

structure Cx.Ok (X : Cx) : Prop where
  mod : Mod X.K X.mg X.base
  kind : X.env.scope.kind = .function
  glob : X.env.globals = mainGlobals
  blt : X.env.builtins = builtinsNs
  above : X.s₀.heap.objs.size ≤ X.env.locals
  inj : ∀ x y c, X.env.cells.lookup x = some c → X.env.cells.lookup y = some c → x = y
  has : ∀ x, (X.env.kindOf x = some .cell ∨ X.env.kindOf x = some .free) → ∃ c, X.env.cells.lookup x = some c
  cab : ∀ x c, X.fn x = true → X.env.cells.lookup x = some c → X.s₀.heap.objs.size ≤ c
  hd : X.calm = true → X.A.handled = none
  frames : X.A.frames = some X.stack
  stk : X.stack = X.outer ∨ (X.stack = X.env :: X.outer ∧ X.env.frame = some X.env.locals)
  exf : ∀ b ∈ X.ex, b ≠ X.env.locals ∧ ∀ x c, X.env.cells.lookup x = some c → c ≠ b
  bs : ∀ b o, X.base.get? b = some o → X.s₀.heap.get? b = some o ∧ X.H₀ b = none
  bsz : X.base.objs.size ≤ X.s₀.heap.objs.size
  noex : ∀ b o, X.base.get? b = some o → b ∉ X.ex
  exfs : ∀ b ∈ X.ex, b ∉ X.fs
  funs : X.s₀.heap.FunFrames X.base X.outer
  frf : ∀ b ∈ X.fs, X.H₀ b = none

structure Inv (X : Cx) (pins : List (Addr × Obj)) (σ : List (Option V)) (H : Hp) (s : Shared) : Prop where
  ok : X.Ok
  os : s.os = X.s₀.os
  bare : AllBare s.gens
  base : Un X.fs X.ex X.H₀ H X.s₀.heap s.heap
  loc : ∃ m, s.heap.Ns X.env.locals m ∧ ∀ (i : Nat) (x : Str) (v : V), X.N[i]? = some x → σ[i]? = some (some v) → Vis X.env.scope x → ∃ u, RelV v u ∧ Look X.env s.heap m x u
  cell : ∀ x c, X.env.cells.lookup x = some c → ∃ v, s.heap.IsCell c v
  free : H X.env.locals = none
  freeC : ∀ x c, X.env.cells.lookup x = some c → H c = none
  pin : ∀ p ∈ X.pn ++ pins, s.heap.get? p.1 = some p.2 ∧ H p.1 = none ∧ p.1 ≠ X.env.locals ∧ p.1 ∉ X.fs ∧ ∀ v, p.2.data ≠ .cell v
  hok : HOk X.prog X.w H s.heap
  len : σ.length = X.N.length

section
variable {X : Cx} {pins : List (Addr × Obj)} {σ : List (Option V)} {H H' : Hp} {s : Shared} {h' : Heap}

theorem Cx.Ok.nofr (ok : X.Ok) {b : Addr} {o : Obj} (e : X.base.get? b = some o) : b ∉ X.fs := fun hb => by
  have := (ok.funs.mem hb).1
  rw [e] at this; cases this
theorem Inv.bs (I : Inv X pins σ H s) : ∀ b o, X.base.get? b = some o → s.heap.get? b = some o ∧ H b = none := fun b o e =>
  ⟨I.base.keep b o (I.ok.bs b o e).1 (I.ok.bs b o e).2 (I.ok.nofr e) (I.ok.noex b o e), I.base.free b o (I.ok.bs b o e).1 (I.ok.bs b o e).2 (I.ok.noex b o e)⟩
theorem Inv.bk (I : Inv X pins σ H s) : ∀ b o, X.base.get? b = some o → s.heap.get? b = some o := fun b o e => (I.bs b o e).1
theorem Inv.mod (I : Inv X pins σ H s) : Mod X.K X.mg X.base := I.ok.mod
theorem Inv.kIn (I : Inv X pins σ H s) : X.K.In s.heap := I.ok.mod.kin.keeps I.bk
theorem Inv.nolimit (I : Inv X pins σ H s) : s.heap.NoLimit := I.ok.mod.nolimit.keeps I.bk
/-- the frame over the base: for OpenK's rules (K.In X.base is I.mod.kin) -/
theorem Inv.fr (I : Inv X pins σ H s) : ∃ m, Fr X.base X.env.locals s.heap m :=
  let ⟨m, hn, _⟩ := I.loc
  ⟨m, hn, I.bk, Nat.le_trans I.ok.bsz I.ok.above⟩
theorem Inv.lt (I : Inv X pins σ H s) : X.env.locals < s.heap.objs.size := let ⟨_, hn, _⟩ := I.loc; hn.lt
theorem Inv.sz (I : Inv X pins σ H s) : X.s₀.heap.objs.size ≤ s.heap.objs.size := Nat.le_trans I.ok.above (Nat.le_of_lt I.lt)
theorem Inv.nofs (I : Inv X pins σ H s) {a : Addr} (h : s.heap.objs.size ≤ a) : a ∉ X.fs := fun hb => by
  obtain ⟨_, o, ho, _⟩ := I.ok.funs.mem hb
  exact absurd (Nat.lt_of_lt_of_le (Heap.lt_size ho) (Nat.le_trans I.sz h)) (Nat.lt_irrefl _)
theorem Inv.cne (I : Inv X pins σ H s) : ∀ x c, X.env.cells.lookup x = some c → c ≠ X.env.locals := fun x c e z => by
  obtain ⟨v, o, ho, hd⟩ := I.cell x c e
  obtain ⟨m, ⟨o', es, ep, ho', hd', _⟩, _⟩ := I.loc
  rw [z, ho'] at ho; cases ho; rw [hd'] at hd; cases hd
theorem Inv.funs (I : Inv X pins σ H s) : s.heap.FunFrames X.base X.outer := by
  have all : ∀ (l : List Env), (∀ b ∈ frs l, b ∈ X.fs) → X.s₀.heap.FunFrames X.base l → s.heap.FunFrames X.base l := by
    intro l
    induction l with
    | nil => intro _ _; trivial
    | cons env r ih =>
      intro hs hl
      obtain ⟨hk, ⟨L, o, hf, hn, ho, hd⟩, hr⟩ := hl
      have hL : L ∈ X.fs := hs L (by unfold frs; rw [List.filterMap_cons, hf]; exact List.mem_cons_self)
      obtain ⟨sl, e⟩ := I.base.slot L o ho (I.ok.frf L hL) hL fun z => I.ok.exfs L z hL
      exact ⟨hk, ⟨L, _, hf, hn, e, hd⟩, ih (fun b hb => hs b (by unfold frs; rw [List.filterMap_cons, hf]; exact List.mem_cons_of_mem _ hb)) hr⟩
  exact all X.outer (fun _ hb => hb) I.ok.funs

/-- the frames that run, for a call -/
theorem Inv.stack (I : Inv X pins σ H s) : s.heap.FunFrames X.base X.stack := by
  rcases I.ok.stk with e | ⟨e, hf⟩
  · rw [e]; exact I.funs
  · rw [e]
    obtain ⟨m, hn, _⟩ := I.loc
    refine .cons (by rw [I.ok.kind]; decide) hf hn ?_ I.funs
    exact Heap.get?_none_of_le (Nat.le_trans I.ok.bsz I.ok.above)
theorem Inv.stkSub (I : Inv X pins σ H s) : ∀ b ∈ frs X.stack, b ∈ X.env.locals :: X.fs := fun b hb => by
  rcases I.ok.stk with e | ⟨e, hf⟩
  · rw [e] at hb; exact List.mem_cons_of_mem _ hb
  · rw [e] at hb
    unfold frs at hb
    rw [List.filterMap_cons, hf] at hb
    exact hb
theorem Inv.stkFree (I : Inv X pins σ H s) : ∀ b ∈ frs X.stack, H b = none := fun b hb => by
  rcases List.mem_cons.mp (I.stkSub b hb) with e | hb
  · rw [e]; exact I.free
  · obtain ⟨_, o, ho, _⟩ := I.ok.funs.mem hb
    exact I.base.free b o ho (I.ok.frf b hb) fun z => I.ok.exfs b z hb

/-- THE STEP: the untracked objects but the frame and the records at ch are kept (the callers' frames up to slots), the frame's map is kept, the new abstract heap is held -/
theorem Inv.step {g' : Array GenState} {t' : Nat} {d' : Drawn} {ch : List Addr} (I : Inv X pins σ H s)
    (hch : ∀ b ∈ ch, (b ∈ X.ex ∨ X.s₀.heap.objs.size ≤ b) ∧ b ≠ X.env.locals ∧ (∀ x c, X.env.cells.lookup x = some c → c ≠ b) ∧ ∀ p ∈ X.pn ++ pins, p.1 ≠ b)
    (keep : ∀ b o, b ≠ X.env.locals → b ∉ X.fs → b ∉ ch → s.heap.get? b = some o → H b = none → h'.get? b = some o)
    (slot : ∀ b o, b ≠ X.env.locals → b ∈ X.fs → b ∉ ch → s.heap.get? b = some o → H b = none → ∃ sl, h'.get? b = some { o with slots := sl }) (free : ∀ b o, b ∉ ch → s.heap.get? b = some o → H b = none → H' b = none)
    (there : ∀ b o, b ∉ ch → s.heap.get? b = some o → ∃ o', h'.get? b = some o')
    (tups : ∀ b xs, H b = some (.tup xs) → H' b = some (.tup xs)) (frzs : ∀ b o u, H b = some (.frz o u) → H' b = some (.frz o u)) (tbls : ∀ b ps, H b = some (.tbl ps) → ∃ more, H' b = some (.tbl (ps ++ more)))
    (ns : ∀ m, s.heap.Ns X.env.locals m → h'.Ns X.env.locals m) (hok : HOk X.prog X.w H' h') (hg : AllBare g') :
    Inv X pins σ H' { s with heap := h', gens := g', drawn := d', toks := t' } := by
  have neL : ∀ b o, X.s₀.heap.get? b = some o → b ≠ X.env.locals := fun b o e => Nat.ne_of_lt (Nat.lt_of_lt_of_le (Heap.lt_size e) I.ok.above)
  have neC : ∀ b o, X.s₀.heap.get? b = some o → b ∉ X.ex → b ∉ ch := fun b o e hx hb => by
    rcases (hch b hb).1 with z | z
    · exact hx z
    · exact absurd (Nat.lt_of_lt_of_le (Heap.lt_size e) z) (Nat.lt_irrefl _)
  have cellK : ∀ x c, X.env.cells.lookup x = some c → ∀ v, s.heap.IsCell c v → h'.IsCell c v := fun x c e v ⟨o, ho, hd⟩ => by
    have nch : c ∉ ch := fun z => (hch c z).2.2.1 x c e rfl
    by_cases hc : c ∈ X.fs
    · obtain ⟨sl, q⟩ := slot c o (I.cne x c e) hc nch ho (I.freeC x c e)
      exact ⟨_, q, hd⟩
    · exact ⟨o, keep c o (I.cne x c e) hc nch ho (I.freeC x c e), hd⟩
  refine ⟨I.ok, I.os, hg, ⟨fun b o e n hb hx => ?_, fun b o e n hb hx => ?_, fun b o e n hx => ?_, fun b o e hx => ?_, fun b xs e => tups b xs (I.base.tups b xs e), fun b o xs e => frzs b o xs (I.base.frzs b o xs e), fun b ps e => ?_⟩, ?_, fun x c e => ?_, ?_, fun x c e => ?_, fun p hp => ?_, hok, I.len⟩
  · exact keep b o (neL b o e) hb (neC b o e hx) (I.base.keep b o e n hb hx) (I.base.free b o e n hx)
  · obtain ⟨sl, e1⟩ := I.base.slot b o e n hb hx
    obtain ⟨sl', e2⟩ := slot b _ (neL b o e) hb (neC b o e hx) e1 (I.base.free b o e n hx)
    exact ⟨sl', e2⟩
  · obtain ⟨o', e1⟩ := I.base.there b o e hx
    exact free b o' (neC b o e hx) e1 (I.base.free b o e n hx)
  · obtain ⟨o', e1⟩ := I.base.there b o e hx
    exact there b o' (neC b o e hx) e1
  · obtain ⟨m1, e1⟩ := I.base.tbls b ps e
    obtain ⟨m2, e2⟩ := tbls b _ e1
    exact ⟨m1 ++ m2, by rw [e2, Array.append_assoc]⟩
  · obtain ⟨m, hn, hl⟩ := I.loc
    refine ⟨m, ns m hn, fun i x v e1 e2 e3 => ?_⟩
    obtain ⟨u, r, l⟩ := hl i x v e1 e2 e3
    refine ⟨u, r, ?_⟩
    rcases l with l | ⟨k, c, e, z⟩
    · exact .inl l
    · exact .inr ⟨k, c, e, cellK x c e _ z⟩
  · obtain ⟨v, z⟩ := I.cell x c e
    exact ⟨v, cellK x c e v z⟩
  · obtain ⟨m, ⟨o, _, _, ho, _⟩, _⟩ := I.loc
    exact free _ o (fun z => (hch _ z).2.1 rfl) ho I.free
  · obtain ⟨v, o, ho, hd⟩ := I.cell x c e
    exact free c o (fun z => (hch c z).2.2.1 x c e rfl) ho (I.freeC x c e)
  · obtain ⟨e, n, ne, nf, d⟩ := I.pin p hp
    have nch : p.1 ∉ ch := fun z => (hch p.1 z).2.2.2 p hp rfl
    exact ⟨keep p.1 p.2 ne nf nch e n, free p.1 p.2 nch e n, ne, nf, d⟩
/-- .. where the frame's own object is kept too -/
theorem Inv.un {t' : Nat} (I : Inv X pins σ H s) (u : Un X.fs [] H H' s.heap h') (hok : HOk X.prog X.w H' h') : Inv X pins σ H' { s with heap := h', toks := t' } := by
  obtain ⟨m, ⟨o, es, ep, ho, r⟩, _⟩ := id I.loc
  obtain ⟨sl, hL⟩ := u.any ho I.free (by simp)
  exact I.step (g' := s.gens) (d' := s.drawn) (ch := []) (fun _ z => nomatch z) (fun b o _ hb _ e n => u.keep b o e n hb (by simp)) (fun b o _ hb _ e n => u.slot b o e n hb (by simp)) (fun b o _ e n => u.free b o e n (by simp)) (fun b o _ e => u.there b o e (by simp)) u.tups u.frzs u.tbls (fun m' hm => by
    obtain ⟨o', es', ep', ho', r'⟩ := hm
    rw [ho] at ho'; cases ho'
    exact ⟨_, es', ep', hL, r'⟩) hok I.bare
/-- behind a call (or a comprehension's block): the slots of this frame may have changed too, the records at ch may have turned -/
theorem Inv.call {g' : Array GenState} {t' : Nat} {d' : Drawn} {ch : List Addr} (I : Inv X pins σ H s) (u : Un (frs X.stack) ch H H' s.heap h') (hok : HOk X.prog X.w H' h') (hg : AllBare g')
    (hch : ∀ b ∈ ch, (b ∈ X.ex ∨ X.s₀.heap.objs.size ≤ b) ∧ b ≠ X.env.locals ∧ (∀ x c, X.env.cells.lookup x = some c → c ≠ b) ∧ ∀ p ∈ X.pn ++ pins, p.1 ≠ b) :
    Inv X pins σ H' { s with heap := h', gens := g', drawn := d', toks := t' } := by
  obtain ⟨m, ⟨o, es, ep, ho, r⟩, _⟩ := id I.loc
  obtain ⟨sl, hL⟩ := u.any ho I.free fun z => (hch _ z).2.1 rfl
  exact I.step (ch := ch) hch (fun b o hL hb hc e n => u.keep b o e n (fun z => (List.mem_cons.mp (I.stkSub b z)).elim hL hb) hc) (fun b o _ _ hc e n => u.any e n hc) (fun b o hc e n => u.free b o e n hc) (fun b o hc e => u.there b o e hc) u.tups u.frzs u.tbls (fun m' hm => by
    obtain ⟨o', es', ep', ho', r'⟩ := hm
    rw [ho] at ho'; cases ho'
    exact ⟨_, es', ep', hL, r'⟩) hok hg
/-- an untracked record of ours (an iterator) has turned -/
theorem Inv.turned {t' : Nat} {it : Addr} (I : Inv X pins σ H s) (k : ∀ b o, b ≠ it → s.heap.get? b = some o → h'.get? b = some o) (hn : H it = none) (hL : it ≠ X.env.locals)
    (h1 : it ∈ X.ex ∨ X.s₀.heap.objs.size ≤ it) (h2 : ∀ x c, X.env.cells.lookup x = some c → c ≠ it) (h3 : ∀ p ∈ X.pn ++ pins, p.1 ≠ it) : Inv X pins σ H { s with heap := h', toks := t' } := by
  have nit : ∀ b u, H b = some u → b ≠ it := fun b u e z => by rw [z, hn] at e; cases e
  refine I.step (g' := s.gens) (d' := s.drawn) (ch := [it]) (fun b hb => ?_) (fun b o _ _ hc e _ => k b o (fun z => hc (by simp [z])) e) (fun b o _ _ hc e _ => ⟨o.slots, k b o (fun z => hc (by simp [z])) e⟩) (fun _ _ _ _ n => n)
    (fun b o hc e => ⟨o, k b o (fun z => hc (by simp [z])) e⟩) (fun _ _ e => e) (fun _ _ _ e => e) (fun b ps e => ⟨#[], by rw [e]; simp⟩) (fun m hm => ?_) (fun b u e => ?_) I.bare
  · have e : b = it := by simpa using hb
    subst e
    exact ⟨h1, hL, h2, h3⟩
  · obtain ⟨o, es, ep, ho, r⟩ := hm
    exact ⟨o, es, ep, k _ o (Ne.symm hL) ho, r⟩
  · refine (I.hok b u e).stay (fun c v hc q => k c v ?_ q) (fun _ q => q) fun _ _ q => q
    rcases hc with z | z
    · rw [z]; exact nit b u e
    · exact nit c _ z
theorem Inv.tok (I : Inv X pins σ H s) (t : Nat) : Inv X pins σ H { s with toks := t } := I.un (h' := s.heap) (t' := t) Un.refl I.hok
/-- all objects kept -/
theorem Inv.kept {t' : Nat} (I : Inv X pins σ H s) (k : ∀ b u, s.heap.get? b = some u → h'.get? b = some u) : Inv X pins σ H { s with heap := h', toks := t' } := I.un (Un.kept k) (I.hok.kept k)
/-- a new object laid and tracked -/
theorem Inv.laid {a : Addr} {o : HO} {t' : Nat} (I : Inv X pins σ H s) (k : ∀ b u, s.heap.get? b = some u → h'.get? b = some u) (hp : s.heap.objs.size ≤ a) (new : ObjOk X.prog X.w (upd H a o) h' a o) :
    Inv X pins σ (upd H a o) { s with heap := h', toks := t' } := I.un (Un.laid k hp (I.hok.fresh hp)) (I.hok.laid k hp new)
/-- an object written -/
theorem Inv.write {x e : Addr} {o : HO} {t' : Nat} (I : Inv X pins σ H s) (mu : Mut (H x)) (he : e = x ∨ H e = some (.own x)) (k : ∀ b u, b ≠ e → s.heap.get? b = some u → h'.get? b = some u) (heo : ∃ u, h'.get? e = some u)
    (new : ObjOk X.prog X.w (upd H x o) h' x o) : Inv X pins σ (upd H x o) { s with heap := h', toks := t' } := I.un (Un.write mu he k heo) (I.hok.write mu he k heo new)
/-- forgetting slots, pins -/
theorem Inv.weak {σ' : List (Option V)} (I : Inv X pins σ H s) (hl : σ'.length = σ.length) (w : ∀ (i : Nat) v, σ'[i]? = some (some v) → σ[i]? = some (some v)) : Inv X pins σ' H s :=
  ⟨I.ok, I.os, I.bare, I.base, let ⟨m, hn, hl'⟩ := I.loc; ⟨m, hn, fun i x v e1 e2 e3 => hl' i x v e1 (w i v e2) e3⟩, I.cell, I.free, I.freeC, I.pin, I.hok, hl.trans I.len⟩
theorem Inv.pins_of {pins' : List (Addr × Obj)} (I : Inv X pins σ H s) (h : ∀ p ∈ pins', s.heap.get? p.1 = some p.2 ∧ H p.1 = none ∧ p.1 ≠ X.env.locals ∧ p.1 ∉ X.fs ∧ ∀ v, p.2.data ≠ .cell v) : Inv X pins' σ H s :=
  ⟨I.ok, I.os, I.bare, I.base, I.loc, I.cell, I.free, I.freeC, fun p hp => (List.mem_append.mp hp).elim (fun z => I.pin p (List.mem_append_left _ z)) (h p), I.hok, I.len⟩

theorem nodup_ix {N : List Str} (hN : N.Nodup) {i j : Nat} {x : Str} (a : N[i]? = some x) (b : N[j]? = some x) : i = j := by
  obtain ⟨h1, e1⟩ := List.getElem?_eq_some_iff.mp a
  obtain ⟨h2, e2⟩ := List.getElem?_eq_some_iff.mp b
  exact (List.getElem_inj hN).mp (e1.trans e2.symm)

/-- a name is stored; what changed -/
theorem store_ok2 {M : Model} {A : Around} {E : Value → Shared → Prop} {i : Nat} {x : Str} {v : V} {u : Value} {Q : Unit → Shared → Prop} (I : Inv X pins σ H s) (hN : X.N.Nodup) (hi : X.N[i]? = some x) (hx : Loc X.env.scope x) (r : RelV v u)
    (h : ∀ s', Inv X pins (σ.set i (some v)) H s' → (∃ a, Heap.SameBut a s.heap s'.heap ∧ (a = X.env.locals ∨ X.env.cells.lookup x = some a)) → Q () s') (hf : X.fn x = true ∨ X.env.scope.names.lookup x = some .local := by first | exact .inl rfl | exact .inr rfl | assumption) : wpAny M A (storeName X.env x u) Q E s := by
  obtain ⟨m, hn, hl⟩ := id I.loc
  have hcls : (X.env.scope.kind == .class || (X.env.scope.kind == .module && X.env.locals != X.env.globals)) = false := by rw [I.ok.kind]; rfl
  have hiσ : i < σ.length := by rw [I.len]; exact (List.getElem?_eq_some_iff.mp hi).1
  have cne := I.cne
  have tracked : ∀ {a : Addr} {h' : Heap}, (∃ o, s.heap.get? a = some o ∧ H a = none) → Heap.SameBut a s.heap h' → HOk X.prog X.w H h' := fun {a h'} ha hs b ob e => by
    obtain ⟨_, _, hfree⟩ := ha
    refine (I.hok b ob e).stay (fun c w' hc q => (hs.2 c ?_).trans q) (fun _ q => q) fun _ _ q => q
    rintro rfl
    rcases hc with rfl | hc
    · rw [hfree] at e; cases e
    · rw [hfree] at hc; cases hc
  rcases hx with hk | hk
  · refine wpAny_storeName_local hk hn (fun h' hn' hs => ?_) hcls
    obtain ⟨oL, _, _, hoL, _⟩ := id hn
    refine h _ ⟨I.ok, I.os, I.bare, ⟨fun b o e n hb hx => ?_, fun b o e n hb hx => ?_, I.base.free, fun b o e hx => ?_, I.base.tups, I.base.frzs, I.base.tbls⟩, ⟨_, hn', fun j y v' e1 e2 e3 => ?_⟩, fun y c e => ?_, I.free, I.freeC, fun p hp => ?_, tracked ⟨oL, hoL, I.free⟩ hs, by simpa using I.len⟩ ⟨_, hs, .inl rfl⟩
    · exact (hs.2 b (Nat.ne_of_lt (Nat.lt_of_lt_of_le (Heap.lt_size e) I.ok.above))).trans (I.base.keep b o e n hb hx)
    · obtain ⟨sl, e1⟩ := I.base.slot b o e n hb hx
      exact ⟨sl, (hs.2 b (Nat.ne_of_lt (Nat.lt_of_lt_of_le (Heap.lt_size e) I.ok.above))).trans e1⟩
    · obtain ⟨o', e1⟩ := I.base.there b o e hx
      exact ⟨o', (hs.2 b (Nat.ne_of_lt (Nat.lt_of_lt_of_le (Heap.lt_size e) I.ok.above))).trans e1⟩
    · by_cases hj : j = i
      · subst hj
        rw [hi] at e1; cases e1
        rw [List.getElem?_set_self hiσ] at e2
        cases e2
        exact ⟨u, r, .inl ⟨hk, by simp⟩⟩
      · rw [List.getElem?_set_ne (Ne.symm hj)] at e2
        obtain ⟨u', r', q⟩ := hl j y v' e1 e2 e3
        refine ⟨u', r', ?_⟩
        rcases q with ⟨k, e⟩ | ⟨k, c, e, z⟩
        · refine .inl ⟨k, ?_⟩
          have : y ≠ x := fun e => hj (nodup_ix hN e1 (e ▸ hi))
          simp [this, e]
        · exact .inr ⟨k, c, e, z.sameBut hs (cne y c e)⟩
    · obtain ⟨w', z⟩ := I.cell y c e
      exact ⟨w', z.sameBut hs (cne y c e)⟩
    · obtain ⟨e, n, ne, nf, d⟩ := I.pin p hp
      exact ⟨(hs.2 p.1 ne).trans e, n, ne, nf, d⟩
  · have hfn : X.fn x = true := by
      rcases hf with z | z
      · exact z
      · rw [z] at hk; cases hk
    obtain ⟨c, hc⟩ := I.ok.has x (.inl hk)
    obtain ⟨w', z⟩ := I.cell x c hc
    refine wpAny_storeName_cell I.ok.kind hk hc z (fun h' hc' hs => ?_)
    obtain ⟨oc, hoc, hocd⟩ := id z
    refine h { s with heap := h' } ⟨I.ok, I.os, I.bare, ⟨fun b o e n hb hx => ?_, fun b o e n hb hx => ?_, I.base.free, fun b o e hx => ?_, I.base.tups, I.base.frzs, I.base.tbls⟩, ⟨m, hn.sameBut hs (Ne.symm (cne x c hc)), fun j y v' e1 e2 e3 => ?_⟩, fun y c' e => ?_, I.free, I.freeC, fun p hp => ?_, tracked ⟨oc, hoc, I.freeC x c hc⟩ hs, by simpa using I.len⟩ ⟨c, hs, .inr hc⟩
    · exact (hs.2 b (Nat.ne_of_lt (Nat.lt_of_lt_of_le (Heap.lt_size e) (I.ok.cab x c hfn hc)))).trans (I.base.keep b o e n hb hx)
    · obtain ⟨sl, e1⟩ := I.base.slot b o e n hb hx
      exact ⟨sl, (hs.2 b (Nat.ne_of_lt (Nat.lt_of_lt_of_le (Heap.lt_size e) (I.ok.cab x c hfn hc)))).trans e1⟩
    · obtain ⟨o', e1⟩ := I.base.there b o e hx
      exact ⟨o', (hs.2 b (Nat.ne_of_lt (Nat.lt_of_lt_of_le (Heap.lt_size e) (I.ok.cab x c hfn hc)))).trans e1⟩
    · by_cases hj : j = i
      · subst hj
        rw [hi] at e1; cases e1
        rw [List.getElem?_set_self hiσ] at e2
        cases e2
        exact ⟨u, r, .inr ⟨.inl hk, c, hc, hc'⟩⟩
      · rw [List.getElem?_set_ne (Ne.symm hj)] at e2
        obtain ⟨u', r', q⟩ := hl j y v' e1 e2 e3
        refine ⟨u', r', ?_⟩
        rcases q with q | ⟨k, c', e, z'⟩
        · exact .inl q
        · refine .inr ⟨k, c', e, z'.sameBut hs ?_⟩
          rintro rfl
          exact hj (nodup_ix hN e1 (I.ok.inj _ _ _ e hc ▸ hi))
    · by_cases hcc : c' = c
      · subst hcc; exact ⟨_, hc'⟩
      · obtain ⟨w2, z2⟩ := I.cell y c' e
        exact ⟨w2, z2.sameBut hs hcc⟩
    · obtain ⟨e, n, ne, nf, d⟩ := I.pin p hp
      refine ⟨(hs.2 p.1 ?_).trans e, n, ne, nf, d⟩
      intro q
      rw [q, hoc] at e
      have q' : oc = p.2 := Option.some.inj e
      exact d w' (by rw [← q']; exact hocd)
theorem store_ok {M : Model} {A : Around} {E : Value → Shared → Prop} {i : Nat} {x : Str} {v : V} {u : Value} {Q : Unit → Shared → Prop} (I : Inv X pins σ H s) (hN : X.N.Nodup) (hi : X.N[i]? = some x) (hx : Loc X.env.scope x) (r : RelV v u)
    (h : ∀ s', Inv X pins (σ.set i (some v)) H s' → Q () s') (hf : X.fn x = true ∨ X.env.scope.names.lookup x = some .local := by first | exact .inl rfl | exact .inr rfl | assumption) : wpAny M A (storeName X.env x u) Q E s :=
  store_ok2 I hN hi hx r (fun s' I' _ => h s' I') hf
/-- behind a call or a block, the state as it is -/
theorem Inv.call' {s' : Shared} {ch : List Addr} (I : Inv X pins σ H s) (ho : s'.os = s.os) (u : Un (frs X.stack) ch H H' s.heap s'.heap) (hok : HOk X.prog X.w H' s'.heap) (hg : AllBare s'.gens)
    (hch : ∀ b ∈ ch, (b ∈ X.ex ∨ X.s₀.heap.objs.size ≤ b) ∧ b ≠ X.env.locals ∧ (∀ x c, X.env.cells.lookup x = some c → c ≠ b) ∧ ∀ p ∈ X.pn ++ pins, p.1 ≠ b) : Inv X pins σ H' s' := by
  obtain ⟨h', g', d', t', o'⟩ := s'
  have e : o' = s.os := ho
  subst e
  exact I.call (g' := g') (t' := t') (d' := d') u hok hg hch
end

/-! ### the judgements -/
/-- an exception: its class, its own dict's address (where it has one), the abstract heap behind it -/
abbrev XK := Value → Option Addr → Hp → Prop
abbrev St := List (Option V)
abbrev VK := V → Hp → Prop
/-- an expression's reading; a test's; an argument list's -/
abbrev TE := St → Hp → VK → Prop
abbrev TT := St → Hp → (Bool → Hp → Prop) → Prop
abbrev TA := St → Hp → (List V → Hp → Prop) → Prop
/-- what is wanted behind a statement -/
structure Ends where
  nx : St → Hp → Prop
  rt : VK
  bk : St → Hp → Prop := fun _ _ => False
  ct : St → Hp → Prop := fun _ _ => False
abbrev TS := Ends → St → Hp → Prop

def EP (X : Cx) (pins : List (Addr × Obj)) (σ : St) (Q : VK) (u : Value) (s' : Shared) : Prop := ∃ v H', Inv X pins σ H' s' ∧ RelV v u ∧ Q v H'
def TP (X : Cx) (pins : List (Addr × Obj)) (σ : St) (Q : Bool → Hp → Prop) (b : Bool) (s' : Shared) : Prop := ∃ H', Inv X pins σ H' s' ∧ Q b H'
def AP (X : Cx) (pins : List (Addr × Obj)) (σ : St) (Q : List V → Hp → Prop) (us : List Value) (s' : Shared) : Prop := ∃ vs H', Inv X pins σ H' s' ∧ Vals vs us ∧ Q vs H'
def SP (X : Cx) (pins : List (Addr × Obj)) (D : Ends) (f : Flow) (s' : Shared) : Prop :=
  match f with
  | .next => ∃ σ' H', Inv X pins σ' H' s' ∧ D.nx σ' H'
  | .brk => ∃ σ' H', Inv X pins σ' H' s' ∧ D.bk σ' H'
  | .cont => ∃ σ' H', Inv X pins σ' H' s' ∧ D.ct σ' H'
  | .ret u => ∃ v σ' H', Inv X pins σ' H' s' ∧ RelV v u ∧ D.rt v H'

def PE (X : Cx) (e : Expr) (t : TE) : Prop :=
  ∀ (pins : List (Addr × Obj)) (s : Shared) (σ : St) (H : Hp) (Q : VK), Inv X pins σ H s → t σ H Q → wpAny (model X.prog X.w) X.A (eval e X.env) (EP X pins σ Q) X.xe s
def PT (X : Cx) (e : Expr) (t : TT) : Prop :=
  ∀ (pins : List (Addr × Obj)) (s : Shared) (σ : St) (H : Hp) (Q : Bool → Hp → Prop), Inv X pins σ H s → t σ H Q → wpAny (model X.prog X.w) X.A (isTrue e X.env (eval e X.env)) (TP X pins σ Q) X.xe s
/-- a test whatever its 'whole' is (and, or) -/
def PW (X : Cx) (e : Expr) (t : TT) : Prop :=
  ∀ (whole : Sem Value) (pins : List (Addr × Obj)) (s : Shared) (σ : St) (H : Hp) (Q : Bool → Hp → Prop), Inv X pins σ H s → t σ H Q → wpAny (model X.prog X.w) X.A (isTrue e X.env whole) (TP X pins σ Q) X.xe s
theorem PW.pt {X : Cx} {e : Expr} {t : TT} (h : PW X e t) : PT X e t := h _
/-- an argument list (no star), from the left -/
def PA (X : Cx) (es : List Expr) (t : TA) : Prop :=
  ∀ (pos : Pos) (pins : List (Addr × Obj)) (s : Shared) (σ : St) (H : Hp) (Q : List V → Hp → Prop), Inv X pins σ H s → t σ H Q → wpAny (model X.prog X.w) X.A (spliced (backTo pos (starEach es X.env))) (AP X pins σ Q) X.xe s
def PS (X : Cx) (st : Stmt) (t : TS) : Prop :=
  ∀ (pins : List (Addr × Obj)) (s : Shared) (σ : St) (H : Hp) (D : Ends), Inv X pins σ H s → t D σ H → wpAny (model X.prog X.w) X.A (exec st X.env) (SP X pins D) X.xe s
def PSs (X : Cx) (st : List Stmt) (t : TS) : Prop :=
  ∀ (pins : List (Addr × Obj)) (s : Shared) (σ : St) (H : Hp) (D : Ends), Inv X pins σ H s → t D σ H → wpAny (model X.prog X.w) X.A (execs st X.env) (SP X pins D) X.xe s
/-- weaken the end -/
theorem thn {α : Type} {t : Sem α} {Q Q' : α → Shared → Prop} {M : Model} {A : Around} {E : Value → Shared → Prop} {s : Shared} (h : wpAny M A t Q E s) (hQ : ∀ a s, Q a s → Q' a s) : wpAny M A t Q' E s := wpAny_mono h hQ fun _ _ x => x
end L2

namespace L2
open PySem PySem.Spec PyProof.Rows
section
variable {X : Cx}

/-- two expressions in a row -/
theorem bin {a b : Expr} {ta tb : TE} (ha : PE X a ta) (hb : PE X b tb) {pins : List (Addr × Obj)} {s : Shared} {σ : St} {H : Hp} {R : V → V → Hp → Prop} (I : Inv X pins σ H s) (h : ta σ H fun x H1 => tb σ H1 fun y H2 => R x y H2)
    {α : Type} {Q : α → Shared → Prop} {f : Value → Value → Sem α}
    (hf : ∀ v u s2 x y H2, Inv X pins σ H2 s2 → RelV x v → RelV y u → R x y H2 → wpAny (model X.prog X.w) X.A (f v u) Q X.xe s2) :
    wpAny (model X.prog X.w) X.A (eval a X.env) (fun v s₁ => wpAny (model X.prog X.w) X.A (eval b X.env) (fun u s₂ => wpAny (model X.prog X.w) X.A (f v u) Q X.xe s₂) X.xe s₁) X.xe s := by
  refine thn (ha pins s σ H _ I h) fun v s1 ⟨x, H1, I1, r1, q1⟩ => ?_
  refine thn (hb pins s1 σ H1 _ I1 q1) fun u s2 ⟨y, H2, I2, r2, q2⟩ => ?_
  exact hf v u s2 x y H2 I2 r1 r2 q2

/-! ### names and constants -/
def tVar (i : Nat) : TE := fun σ H Q => ∃ v, σ[i]? = some (some v) ∧ Q v H
def tC (v : V) : TE := fun _ H Q => Q v H
theorem pe_var {i : Nat} {x : Str} {pos : Pos} (hN : X.N[i]? = some x) (hv : Vis X.env.scope x) (hd : (x == ("__debug__" : Str)) = false := by decide) (hcd : (x == ("__classdict__" : Str)) = false := by decide) : PE X (.Name x pos) (tVar i) := by
  intro pins s σ H Q I h
  obtain ⟨v, e, h⟩ := h
  obtain ⟨m, hn, hl⟩ := I.loc
  obtain ⟨u, r, l⟩ := hl i x v hN e hv
  have fin : EP X pins σ Q u s := ⟨v, H, I, r, h⟩
  rcases l with ⟨hk, hm⟩ | ⟨hk, c, hc, hcell⟩
  · exact wpAny_Name (wpAny_loadName_local I.ok.kind hk hn hm fin) hd
  · rcases hk with hk | hk
    · exact wpAny_Name (wpAny_loadName_cell I.ok.kind hk hc hcell fin) hd
    · exact wpAny_Name (wpAny_loadName_free I.ok.kind hk hc hcell fin hcd) hd
theorem pe_int {i j pos} : PE X (.Constant (.int i) j pos) (tC (.int i)) := fun _ _ _ H _ I h => wpAny_Constant_int ⟨.int i, H, I.tok _, ⟨_, rfl⟩, h⟩
theorem pe_bl {b j pos} : PE X (.Constant (.bool b) j pos) (tC (.bl b)) := fun _ _ _ H _ I h => Constant_bool ⟨.bl b, H, I, rfl, h⟩
theorem pe_non {j pos} : PE X (.Constant .none j pos) (tC .non) := fun _ _ _ H _ I h => Constant_none ⟨.non, H, I, rfl, h⟩
theorem pe_str {x j pos} : PE X (.Constant (.str x) j pos) (tC (.str x)) := fun _ _ _ H _ I h => Calls.Constant_str ⟨.str x, H, I.tok _, ⟨_, rfl⟩, h⟩

/-- a global name of the def -/
def Gl (X : Cx) (x : Str) : Prop := X.env.kindOf x = some .globalImplicit
theorem ld_glob {E : Value → Shared → Prop} {pins : List (Addr × Obj)} {s : Shared} {σ : St} {H : Hp} {x : Str} {u : Value} {pos : Pos} {Q : Value → Shared → Prop} (I : Inv X pins σ H s) (hg : Gl X x) (hm : X.mg x = some u) (h : Q u s)
    (hd : (x == ("__debug__" : Str)) = false := by decide) : wpAny (model X.prog X.w) X.A (eval (.Name x pos) X.env) Q E s :=
  Calls.Name_function_global I.ok.kind hg (Calls.loadGlobal_global (by rw [I.ok.glob]; exact I.mod.glob.keeps I.bk) hm h) hd
theorem ld_blt {E : Value → Shared → Prop} {pins : List (Addr × Obj)} {s : Shared} {σ : St} {H : Hp} {x : Str} {u : Value} {pos : Pos} {Q : Value → Shared → Prop} (I : Inv X pins σ H s) (hg : Gl X x) (hm : X.mg x = none) (hv : bootBuiltins x = some u) (h : Q u s)
    (hn : x ≠ "__name__" := by decide) (hd : (x == ("__debug__" : Str)) = false := by decide) : wpAny (model X.prog X.w) X.A (eval (.Name x pos) X.env) Q E s := by
  obtain ⟨mb, h1, h2⟩ := I.mod.blt
  exact Calls.Name_function_global I.ok.kind hg (Calls.loadGlobal_builtin (by rw [I.ok.glob]; exact I.mod.glob.keeps I.bk) hm (by rw [I.ok.blt]; exact h1.keeps I.bk) ((h2 x hn).trans hv) h) hd
/-- a module's constant, a class, a function, as a value -/
theorem pe_glob {x : Str} {v : V} {u : Value} {pos : Pos} (hg : Gl X x) (hm : X.mg x = some u) (r : RelV v u) (hd : (x == ("__debug__" : Str)) = false := by decide) : PE X (.Name x pos) (tC v) :=
  fun _ _ _ H _ I h => ld_glob I hg hm ⟨v, H, I, r, h⟩ hd
theorem pe_bltn {x : Str} {v : V} {u : Value} {pos : Pos} (hg : Gl X x) (hm : X.mg x = none) (hv : bootBuiltins x = some u) (r : RelV v u) (hn : x ≠ "__name__" := by decide) (hd : (x == ("__debug__" : Str)) = false := by decide) : PE X (.Name x pos) (tC v) :=
  fun _ _ _ H _ I h => ld_blt I hg hm hv ⟨v, H, I, r, h⟩ hn hd

/-! ### arithmetic -/
/-- two ints -/
def t2I (ta tb : TE) (k : Int → Int → Hp → Prop) : St → Hp → Prop := fun σ H => ta σ H fun x H1 => tb σ H1 fun y H2 => ∃ i j, x = .int i ∧ y = .int j ∧ k i j H2
def tAdd (ta tb : TE) : TE := fun σ H Q => t2I ta tb (fun i j H2 => Q (.int (i + j)) H2) σ H
def tSub (ta tb : TE) : TE := fun σ H Q => t2I ta tb (fun i j H2 => Q (.int (i - j)) H2) σ H
/-- the left factor below 2^64 -/
def tMul (ta tb : TE) : TE := fun σ H Q => t2I ta tb (fun i j H2 => (-(2 ^ 64) < i ∧ i < 2 ^ 64) ∧ Q (.int (i * j)) H2) σ H
variable {a b : Expr} {ta tb : TE} {pos : Pos}
theorem pe_add (ha : PE X a ta) (hb : PE X b tb) : PE X (.BinOp a .Add b pos) (tAdd ta tb) := by
  intro pins s σ H Q I h
  refine wpAny_BinOp (bin ha hb I h fun v u s2 x y H2 I2 rx ry q => ?_)
  obtain ⟨i, j, rfl, rfl, q⟩ := q
  obtain ⟨t, rfl⟩ := rx
  obtain ⟨t', rfl⟩ := ry
  exact add_int ⟨.int _, H2, I2.tok _, ⟨_, rfl⟩, q⟩
theorem pe_sub (ha : PE X a ta) (hb : PE X b tb) : PE X (.BinOp a .Sub b pos) (tSub ta tb) := by
  intro pins s σ H Q I h
  refine wpAny_BinOp (bin ha hb I h fun v u s2 x y H2 I2 rx ry q => ?_)
  obtain ⟨i, j, rfl, rfl, q⟩ := q
  obtain ⟨t, rfl⟩ := rx
  obtain ⟨t', rfl⟩ := ry
  exact sub_int ⟨.int _, H2, I2.tok _, ⟨_, rfl⟩, q⟩
theorem pe_mul (ha : PE X a ta) (hb : PE X b tb) : PE X (.BinOp a .Mult b pos) (tMul ta tb) := by
  intro pins s σ H Q I h
  refine wpAny_BinOp (bin ha hb I h fun v u s2 x y H2 I2 rx ry q => ?_)
  obtain ⟨i, j, rfl, rfl, ⟨q1, q2⟩, q⟩ := q
  obtain ⟨t, rfl⟩ := rx
  obtain ⟨t', rfl⟩ := ry
  exact mul_int ⟨.int _, H2, I2.tok _, ⟨_, rfl⟩, q⟩ (.of_left (intBits_le_64 q1 q2))

/-! ### comparisons -/
def PC (X : Cx) (op : CmpOp) (a b : Expr) (t : TE) : Prop :=
  ∀ (pins : List (Addr × Obj)) (s : Shared) (σ : St) (H : Hp) (Q : VK), Inv X pins σ H s → t σ H Q →
    wpAny (model X.prog X.w) X.A (eval a X.env) (fun v s₁ => wpAny (model X.prog X.w) X.A (eval b X.env) (fun u s₂ => wpAny (model X.prog X.w) X.A (compareOp op v u) (EP X pins σ Q) X.xe s₂) X.xe s₁) X.xe s
theorem nobehind (b : Expr) {op : CmpOp} (h : op ≠ .In) (h2 : op ≠ .NotIn) : behindInMarks op b = false := by
  have e1 : (op == CmpOp.In) = false := by cases op <;> first | rfl | exact absurd rfl h
  have e2 : (op == CmpOp.NotIn) = false := by cases op <;> first | rfl | exact absurd rfl h2
  cases b <;> simp [behindInMarks, e1, e2]
def tCmp (p : Int → Int → Bool) (ta tb : TE) : TE := fun σ H Q => t2I ta tb (fun i j H2 => Q (.bl (p i j)) H2) σ H
abbrev tLt : TE → TE → TE := tCmp fun i j => decide (i < j)
abbrev tLe : TE → TE → TE := tCmp fun i j => decide (i ≤ j)
abbrev tGt : TE → TE → TE := tCmp fun i j => decide (j < i)
abbrev tGe : TE → TE → TE := tCmp fun i j => decide (j ≤ i)
abbrev tEqI : TE → TE → TE := tCmp fun i j => decide (i = j)
abbrev tNeI : TE → TE → TE := tCmp fun i j => !decide (i = j)
/-- a comparison of two ints, by its rule -/
theorem pc_int {op : CmpOp} {p : Int → Int → Bool} (ha : PE X a ta) (hb : PE X b tb)
    (rule : ∀ (i j : Int) (t u : Tok) (Q : Value → Shared → Prop) (s : Shared), Q (.bool (p i j)) s → wpAny (model X.prog X.w) X.A (compareOp op (.int i t) (.int j u)) Q X.xe s) : PC X op a b (tCmp p ta tb) := by
  intro pins s σ H Q I h
  refine bin ha hb I h fun v u s2 x y H2 I2 rx ry q => ?_
  obtain ⟨i, j, rfl, rfl, q⟩ := q
  obtain ⟨t, rfl⟩ := rx
  obtain ⟨t', rfl⟩ := ry
  exact rule i j t t' _ s2 ⟨.bl _, H2, I2, rfl, q⟩
theorem pc_lt (ha : PE X a ta) (hb : PE X b tb) : PC X .Lt a b (tLt ta tb) := pc_int ha hb fun _ _ _ _ _ _ h => lt_int h
theorem pc_le (ha : PE X a ta) (hb : PE X b tb) : PC X .LtE a b (tLe ta tb) := pc_int ha hb fun _ _ _ _ _ _ h => le_int h
theorem pc_gt (ha : PE X a ta) (hb : PE X b tb) : PC X .Gt a b (tGt ta tb) := pc_int ha hb fun _ _ _ _ _ _ h => gt_int h
theorem pc_ge (ha : PE X a ta) (hb : PE X b tb) : PC X .GtE a b (tGe ta tb) := pc_int ha hb fun _ _ _ _ _ _ h => ge_int h
theorem pc_eqI (ha : PE X a ta) (hb : PE X b tb) : PC X .Eq a b (tEqI ta tb) := pc_int ha hb fun _ _ _ _ _ _ h => eq_int (by rw [Bool.beq_eq_decide_eq]; exact h)
theorem pc_neI (ha : PE X a ta) (hb : PE X b tb) : PC X .NotEq a b (tNeI ta tb) := pc_int ha hb fun _ _ _ _ _ _ h => ne_int (by rw [bne, Bool.beq_eq_decide_eq]; exact h)
/-- is None -/
def tIsN (ta : TE) : TE := fun σ H Q => ta σ H fun x H1 => Q (.bl (decide (x = .non))) H1
def tNotN (ta : TE) : TE := fun σ H Q => ta σ H fun x H1 => Q (.bl (!decide (x = .non))) H1
theorem RelV.none_iff {x : V} {v : Value} (r : RelV x v) : (v == Value.none) = decide (x = .non) := by
  cases x with
  | non => cases r; rfl
  | bl _ => cases r; rfl
  | int _ => obtain ⟨t, rfl⟩ := r; rfl
  | str _ => obtain ⟨t, rfl⟩ := r; rfl
  | byt _ => obtain ⟨t, rfl⟩ := r; rfl
  | flt _ => obtain ⟨t, rfl⟩ := r; rfl
  | ref _ => cases r; rfl
  | ty _ => cases r; rfl
theorem pc_isN {j pos'} (ha : PE X a ta) : PC X .Is a (.Constant .none j pos') (tIsN ta) := by
  intro pins s σ H Q I h
  refine thn (ha pins s σ H _ I h) fun v s1 ⟨x, H1, I1, r1, q1⟩ => ?_
  exact Constant_none (is_none_gen ⟨.bl _, H1, I1, by rw [r1.none_iff]; rfl, q1⟩)
theorem pc_notN {j pos'} (ha : PE X a ta) : PC X .IsNot a (.Constant .none j pos') (tNotN ta) := by
  intro pins s σ H Q I h
  refine thn (ha pins s σ H _ I h) fun v s1 ⟨x, H1, I1, r1, q1⟩ => ?_
  exact Constant_none (isnot_none_gen ⟨.bl _, H1, I1, by rw [r1.none_iff]; rfl, q1⟩)
/-- a comparison as a value, as a test -/
def tB (t : TE) : TT := fun σ H Q => t σ H fun x H1 => ∃ c, x = .bl c ∧ Q c H1
theorem pe_cmp {op : CmpOp} {t : TE} (h : PC X op a b t) (h1 : behindInMarks op b = false := by first | exact nobehind _ (by decide) (by decide) | rfl) : PE X (.Compare a [op] [b] pos) t := fun pins s σ H Q I hw => wpAny_Compare1 (h pins s σ H Q I hw) h1
theorem pt_cmp {op : CmpOp} {t : TE} (h : PC X op a b t) (h1 : behindInMarks op b = false := by first | exact nobehind _ (by decide) (by decide) | rfl) : PT X (.Compare a [op] [b] pos) (tB t) := by
  intro pins s σ H Q I hw
  refine wpAny_isTrue_Compare1 (thn (h pins s σ H _ I hw) fun v s1 h1 => thn h1 fun u s2 h2 => thn h2 fun c s3 ⟨x, H1, I1, r1, q1⟩ => ?_) h1
  obtain ⟨d, rfl, q⟩ := q1
  cases r1
  exact wpAny_truthy_bool ⟨H1, I1, q⟩
/-- an expression whose value is a bool, as a test -/
theorem pt_val {e : Expr} {t : TE} (h : PE X e t) (he : ∀ whole, isTrue e X.env whole = (do let v ← whole; standAt e.pos; holding [v] (truthy v)) := by intro _; rfl) : PT X e (tB t) := by
  intro pins s σ H Q I hw
  refine isTrue_plain (thn (h pins s σ H _ I hw) fun v s1 ⟨x, H1, I1, r1, q1⟩ => ?_) (he _)
  obtain ⟨d, rfl, q⟩ := q1
  cases r1
  exact wpAny_truthy_bool ⟨H1, I1, q⟩

/-! ### and, or, not -/
variable {tA tB' : TT} {rest : List Expr}
def tAnd (t u : TT) : TT := fun σ H Q => t σ H fun c H1 => if c = true then u σ H1 Q else Q false H1
def tOr (t u : TT) : TT := fun σ H Q => t σ H fun c H1 => if c = true then Q true H1 else u σ H1 Q
def tNot (t : TT) : TT := fun σ H Q => t σ H fun c H1 => Q (!c) H1
theorem pw_and1 (ha : PT X a tA) : PW X (.BoolOp .And [a] pos) tA := by
  intro wh pins s σ H Q I h
  refine isTrue_and (thn (ha pins s σ H Q I h) fun c s1 e => ?_)
  cases c with
  | true => exact isTrue_and_nil e
  | false => exact e
theorem pw_or1 (ha : PT X a tA) : PW X (.BoolOp .Or [a] pos) tA := by
  intro wh pins s σ H Q I h
  refine isTrue_or (thn (ha pins s σ H Q I h) fun c s1 e => ?_)
  cases c with
  | false => exact isTrue_or_nil e
  | true => exact e
theorem pw_and (ha : PT X a tA) (hb : PW X (.BoolOp .And (b :: rest) pos) tB') : PW X (.BoolOp .And (a :: b :: rest) pos) (tAnd tA tB') := by
  intro wh pins s σ H Q I h
  refine isTrue_and (thn (ha pins s σ H _ I h) fun c s1 ⟨H1, I1, q1⟩ => ?_)
  cases c with
  | true => exact hb wh pins s1 σ H1 Q I1 q1
  | false => exact ⟨H1, I1, q1⟩
theorem pw_or (ha : PT X a tA) (hb : PW X (.BoolOp .Or (b :: rest) pos) tB') : PW X (.BoolOp .Or (a :: b :: rest) pos) (tOr tA tB') := by
  intro wh pins s σ H Q I h
  refine isTrue_or (thn (ha pins s σ H _ I h) fun c s1 ⟨H1, I1, q1⟩ => ?_)
  cases c with
  | true => exact ⟨H1, I1, q1⟩
  | false => exact hb wh pins s1 σ H1 Q I1 q1
theorem pt_not (ha : PT X a tA) : PT X (.UnaryOp .Not a pos) (tNot tA) := by
  intro pins s σ H Q I h
  exact isTrue_not (ha pins s σ H (fun c H1 => Q (!c) H1) I h)
/-- .. as values (bools) -/
def tAndV (ta tb : TE) : TE := fun σ H Q => ta σ H fun x H1 => ∃ c, x = .bl c ∧ if c = true then tb σ H1 Q else Q (.bl false) H1
def tOrV (ta tb : TE) : TE := fun σ H Q => ta σ H fun x H1 => ∃ c, x = .bl c ∧ if c = true then Q (.bl true) H1 else tb σ H1 Q
def tNotV (ta : TE) : TE := fun σ H Q => ta σ H fun x H1 => ∃ c, x = .bl c ∧ Q (.bl (!c)) H1
theorem pe_one {op} {t : TE} (h : PE X a t) : PE X (.BoolOp op [a] pos) t := fun pins s σ H Q I hw => BoolOp_one (h pins s σ H Q I hw)
theorem pe_and (ha : PE X a ta) (hb : PE X (.BoolOp .And (b :: rest) pos) tb) : PE X (.BoolOp .And (a :: b :: rest) pos) (tAndV ta tb) := by
  intro pins s σ H Q I h
  refine BoolOp_and (thn (ha pins s σ H _ I h) fun v s1 ⟨x, H1, I1, r1, q1⟩ => ?_)
  obtain ⟨c, rfl, q1⟩ := q1
  cases r1
  refine wpAny_truthy_bool ?_
  cases c with
  | true => exact hb pins s1 σ H1 Q I1 q1
  | false => exact ⟨.bl false, H1, I1, rfl, q1⟩
theorem pe_or (ha : PE X a ta) (hb : PE X (.BoolOp .Or (b :: rest) pos) tb) : PE X (.BoolOp .Or (a :: b :: rest) pos) (tOrV ta tb) := by
  intro pins s σ H Q I h
  refine BoolOp_or (thn (ha pins s σ H _ I h) fun v s1 ⟨x, H1, I1, r1, q1⟩ => ?_)
  obtain ⟨c, rfl, q1⟩ := q1
  cases r1
  refine wpAny_truthy_bool ?_
  cases c with
  | false => exact hb pins s1 σ H1 Q I1 q1
  | true => exact ⟨.bl true, H1, I1, rfl, q1⟩
theorem pe_not (ha : PE X a ta) : PE X (.UnaryOp .Not a pos) (tNotV ta) := by
  intro pins s σ H Q I h
  refine UnaryOp_ (thn (ha pins s σ H _ I h) fun v s1 ⟨x, H1, I1, r1, q1⟩ => ?_)
  obtain ⟨c, rfl, q1⟩ := q1
  cases r1
  exact not_of (wpAny_truthy_bool ⟨.bl (!c), H1, I1, rfl, q1⟩)
/-- a if t else b -/
def tIf (t : TT) (ta tb : TE) : TE := fun σ H Q => t σ H fun c H1 => if c = true then ta σ H1 Q else tb σ H1 Q
theorem pe_ifExp {c : Expr} (hc : PT X c tA) (ha : PE X a ta) (hb : PE X b tb) : PE X (.IfExp c a b pos) (tIf tA ta tb) := by
  intro pins s σ H Q I h
  refine wpAny_IfExp (thn (hc pins s σ H _ I h) fun d s1 ⟨H1, I1, q1⟩ => ?_)
  cases d with
  | true => exact ha pins s1 σ H1 Q I1 q1
  | false => exact hb pins s1 σ H1 Q I1 q1
end
end L2

namespace L2
open PySem PySem.Spec PyProof.Rows

/-! ### a list, a tuple that is read: tracked, frozen, or an object of the module -/
def SqL (K : PySem.W.Frag) (H : Hp) (a : Addr) (xs : List V) : Prop :=
  Rd H a (.lst xs) ∨
    ∃ (o : Obj) (its : Array Value) (n : Nat), K.lookup a = some o ∧ o.cls = .type "list" ∧ o.dict = none ∧ o.data = .seq its n ∧ its.size ≤ sizeLine ∧ Vals xs its.toList
def SqT (K : PySem.W.Frag) (H : Hp) (a : Addr) (xs : List V) : Prop :=
  Rd H a (.tup xs) ∨
    ∃ (o : Obj) (its : Array Value) (n : Nat), K.lookup a = some o ∧ o.cls = .type "tuple" ∧ o.data = .seq its n ∧ its.size ≤ sizeLine ∧ Vals xs its.toList
def absV : Value → Option V
  | .none => some .non
  | .bool b => some (.bl b)
  | .int i _ => some (.int i)
  | .str x _ => some (.str x)
  | .bytes b _ => some (.byt b)
  | .float b _ => some (.flt b)
  | .ref a => some (.ref a)
  | .type n => some (.ty n)
  | _ => none
theorem RelV.abs {x : V} {u : Value} (r : RelV x u) : absV u = some x := by
  cases x with
  | non => cases r; rfl
  | bl _ => cases r; rfl
  | int _ => obtain ⟨t, rfl⟩ := r; rfl
  | str _ => obtain ⟨t, rfl⟩ := r; rfl
  | byt _ => obtain ⟨t, rfl⟩ := r; rfl
  | flt _ => obtain ⟨t, rfl⟩ := r; rfl
  | ref _ => cases r; rfl
  | ty _ => cases r; rfl
theorem RelV.inj {x y : V} {u : Value} (r : RelV x u) (q : RelV y u) : x = y := Option.some.inj (r.abs.symm.trans q.abs)
theorem Vals.inj : ∀ {xs ys : List V} {us : List Value}, Vals xs us → Vals ys us → xs = ys
  | _, _, _, .nil, .nil => rfl
  | _, _, _, .cons r t, .cons r' t' => by rw [r.inj r', Vals.inj t t']
section
variable {X : Cx} {pins : List (Addr × Obj)} {σ : St} {H : Hp} {s : Shared} {a : Addr} {xs ys : List V}
theorem SqL.of {K : PySem.W.Frag} (h : H a = some (.lst xs)) : SqL K H a xs := .inl (.inl h)
theorem SqT.of {K : PySem.W.Frag} (h : H a = some (.tup xs)) : SqT K H a xs := .inl (.inl h)
theorem Inv.list (I : Inv X pins σ H s) (h : SqL X.K H a xs) : ∃ its : List Value, Vals xs its ∧ PlainL s.heap a its.toArray ∧ xs.length ≤ sizeLine := by
  rcases h with h | ⟨o, its, n, hk, hc, hd, hs, hz, r⟩
  · obtain ⟨z, its, n, r, e⟩ := h.ok I.hok
    exact ⟨its, r, ⟨_, n, e, rfl, rfl, rfl⟩, z⟩
  · refine ⟨its.toList, r, ⟨o, n, I.kIn a o hk, hc, hd, by simpa using hs⟩, ?_⟩
    have e := r.length
    simp only [Array.length_toList] at e
    omega
theorem Inv.tuple (I : Inv X pins σ H s) (h : SqT X.K H a xs) : ∃ its : List Value, Vals xs its ∧ IsTup s.heap a its.toArray ∧ xs.length ≤ sizeLine := by
  rcases h with h | ⟨o, its, n, hk, hc, hs, hz, r⟩
  · obtain ⟨z, its, r, p⟩ := h.ok I.hok
    exact ⟨its, r, p, z⟩
  · refine ⟨its.toList, r, ⟨o, I.kIn a o hk, hc, n, by simpa using hs⟩, ?_⟩
    have e := r.length
    simp only [Array.length_toList] at e
    omega
theorem Inv.list_inj (I : Inv X pins σ H s) (h : SqL X.K H a xs) (h' : SqL X.K H a ys) : xs = ys := by
  obtain ⟨its, r, ⟨o, n, e, _, _, d⟩, _⟩ := I.list h
  obtain ⟨its', r', ⟨o', n', e', _, _, d'⟩, _⟩ := I.list h'
  rw [e] at e'; cases e'
  rw [d] at d'
  injection d' with d1 _
  have : its = its' := by simpa using congrArg Array.toList d1
  subst this
  exact r.inj r'
theorem Inv.tuple_inj (I : Inv X pins σ H s) (h : SqT X.K H a xs) (h' : SqT X.K H a ys) : xs = ys := by
  obtain ⟨its, r, ⟨o, e, _, n, d⟩, _⟩ := I.tuple h
  obtain ⟨its', r', ⟨o', e', _, n', d'⟩, _⟩ := I.tuple h'
  rw [e] at e'; cases e'
  rw [d] at d'
  injection d' with d1 _
  have : its = its' := by simpa using congrArg Array.toList d1
  subst this
  exact r.inj r'
end

/-! ### another wish about exceptions -/
abbrev Cx.wish (X : Cx) (E : Value → Shared → Prop) : Cx := { X with xe := E }
/-- no exception leaves -/
abbrev Cx.nox (X : Cx) : Cx := X.wish fun _ _ => False
theorem Cx.Ok.wish {X : Cx} (ok : X.Ok) (E : Value → Shared → Prop) : (X.wish E).Ok :=
  ⟨ok.mod, ok.kind, ok.glob, ok.blt, ok.above, ok.inj, ok.has, ok.cab, ok.hd, ok.frames, ok.stk, ok.exf, ok.bs, ok.bsz, ok.noex, ok.exfs, ok.funs, ok.frf⟩
theorem Cx.Ok.unwish {X : Cx} {E : Value → Shared → Prop} (ok : (X.wish E).Ok) : X.Ok :=
  ⟨ok.mod, ok.kind, ok.glob, ok.blt, ok.above, ok.inj, ok.has, ok.cab, ok.hd, ok.frames, ok.stk, ok.exf, ok.bs, ok.bsz, ok.noex, ok.exfs, ok.funs, ok.frf⟩
section
variable {X : Cx} {pins : List (Addr × Obj)} {σ : St} {H : Hp} {s : Shared} {E : Value → Shared → Prop}
theorem Inv.wish (I : Inv X pins σ H s) (E : Value → Shared → Prop) : Inv (X.wish E) pins σ H s := ⟨I.ok.wish E, I.os, I.bare, I.base, I.loc, I.cell, I.free, I.freeC, I.pin, I.hok, I.len⟩
theorem Inv.unwish (I : Inv (X.wish E) pins σ H s) : Inv X pins σ H s := ⟨I.ok.unwish, I.os, I.bare, I.base, I.loc, I.cell, I.free, I.freeC, I.pin, I.hok, I.len⟩
theorem SP.unwish {D : Ends} {f : Flow} {s' : Shared} (h : SP (X.wish E) pins D f s') : SP X pins D f s' := by
  cases f with
  | next => obtain ⟨σ', H', I, q⟩ := h; exact ⟨σ', H', I.unwish, q⟩
  | brk => obtain ⟨σ', H', I, q⟩ := h; exact ⟨σ', H', I.unwish, q⟩
  | cont => obtain ⟨σ', H', I, q⟩ := h; exact ⟨σ', H', I.unwish, q⟩
  | ret u => obtain ⟨v, σ', H', I, r, q⟩ := h; exact ⟨v, σ', H', I.unwish, r, q⟩
theorem PE.nox {e : Expr} {t : TE} (h : PE X.nox e t) : PE X e t := fun pins s σ H Q I hw =>
  wpAny_mono (h pins s σ H Q (I.wish _) hw) (fun _ _ ⟨v, H', I', r, q⟩ => ⟨v, H', I'.unwish, r, q⟩) fun _ _ z => False.elim z
theorem PT.nox {e : Expr} {t : TT} (h : PT X.nox e t) : PT X e t := fun pins s σ H Q I hw =>
  wpAny_mono (h pins s σ H Q (I.wish _) hw) (fun _ _ ⟨H', I', q⟩ => ⟨H', I'.unwish, q⟩) fun _ _ z => False.elim z
theorem PSs.nox {st : List Stmt} {t : TS} (h : PSs X.nox st t) : PSs X st t := fun pins s σ H D I hw =>
  wpAny_mono (h pins s σ H D (I.wish _) hw) (fun _ _ q => q.unwish) fun _ _ z => False.elim z
end

/-! ### blocks and small statements -/
section
variable {X : Cx} {st : Stmt} {rest : List Stmt} {t u : TS} {e : Expr} {te : TE} {pos : Pos}
def tNext : TS := fun D σ H => D.nx σ H
def tSeq (t u : TS) : TS := fun D σ H => t { D with nx := u D } σ H
theorem pss_nil : PSs X [] tNext := fun _ _ σ H _ I h => wpAny_execs_nil ⟨σ, H, I, h⟩
theorem pss_cons (h1 : PS X st t) (h2 : PSs X rest u) : PSs X (st :: rest) (tSeq t u) := by
  intro pins s σ H D I h
  refine wpAny_execs_cons (thn (h1 pins s σ H { D with nx := u D } I h) fun f s1 q => ?_)
  cases f with
  | next =>
    obtain ⟨σ', H', I', q⟩ := q
    exact h2 pins s1 σ' H' D I' q
  | ret v => exact q
  | brk => exact q
  | cont => exact q
theorem pss_one (h1 : PS X st t) : PSs X [st] t := by
  intro pins s σ H D I h
  refine wpAny_execs_cons (thn (h1 pins s σ H D I h) fun f s1 q => ?_)
  cases f with
  | next => exact wpAny_execs_nil q
  | ret v => exact q
  | brk => exact q
  | cont => exact q
def tBreak : TS := fun D σ H => D.bk σ H
def tCont : TS := fun D σ H => D.ct σ H
theorem ps_pass : PS X (.Pass pos) tNext := fun _ _ σ H _ I h => wpAny_Pass ⟨σ, H, I, h⟩
theorem ps_break : PS X (.Break pos) tBreak := fun _ _ σ H _ I h => wpAny_Break ⟨σ, H, I, h⟩
theorem ps_continue : PS X (.Continue pos) tCont := fun _ _ σ H _ I h => wpAny_Continue ⟨σ, H, I, h⟩
/-- in a def's body nothing is shown -/
theorem Inv.quiet {pins : List (Addr × Obj)} {σ : St} {H : Hp} {s : Shared} (I : Inv X pins σ H s) : interactive X.env = false := by simp [interactive, I.ok.kind]
/-- a docstring -/
theorem ps_doc {x j pos pos'} : PS X (.Expr (.Constant (.str x) j pos) pos') tNext := fun _ s σ H _ I h => wpAny_Expr (Calls.Constant_str (show SP X _ _ .next { s with toks := s.toks + 1 } from ⟨σ, H, I.tok _, h⟩)) I.quiet
/-- an expression whose value is dropped -/
def tDrop (te : TE) : TS := fun D σ H => te σ H fun _ H1 => D.nx σ H1
theorem ps_expr (he : PE X e te) (hs : swapsWith e none pos.line X.env = pure false := by rfl) : PS X (.Expr e pos) (tDrop te) := by
  intro pins s σ H D I h
  exact wpAny_Expr_any (thn (he pins s σ H _ I h) fun v s1 ⟨x, H1, I1, r1, q1⟩ => ⟨σ, H1, I1, q1⟩) I.quiet hs
def tRet (te : TE) : TS := fun D σ H => te σ H D.rt
theorem ps_ret (he : PE X e te) : PS X (.Return (some e) pos) (tRet te) := by
  intro pins s σ H D I h
  exact wpAny_Return_some (thn (he pins s σ H _ I h) fun v s1 ⟨x, H1, I1, r1, q1⟩ => ⟨x, σ, H1, I1, r1, q1⟩)
def tRetN : TS := fun D _ H => D.rt .non H
theorem ps_retN : PS X (.Return none pos) tRetN := fun _ _ σ H _ I h => wpAny_Return_none ⟨.non, σ, H, I, rfl, h⟩
def tIfS (c : TT) (t u : TS) : TS := fun D σ H => c σ H fun b H1 => if b = true then t D σ H1 else u D σ H1
theorem ps_if {c : Expr} {a b : List Stmt} {tc : TT} (hc : PT X c tc) (ha : PSs X a t) (hb : PSs X b u) : PS X (.If c a b pos) (tIfS tc t u) := by
  intro pins s σ H D I h
  refine wpAny_If (thn (hc pins s σ H _ I h) fun d s1 ⟨H1, I1, q1⟩ => ?_)
  cases d with
  | true => exact ha pins s1 σ H1 D I1 q1
  | false => exact hb pins s1 σ H1 D I1 q1
/-- code that the proof never comes to -/
def tNever : TS := fun _ _ _ => False
theorem ps_never : PS X st tNever := fun _ _ _ _ _ _ h => h.elim
theorem pss_never {sts : List Stmt} : PSs X sts tNever := fun _ _ _ _ _ _ h => h.elim
end

/-! ### targets -/
abbrev TG := V → St → Hp → (St → Hp → Prop) → Prop
abbrev TGs := List V → St → Hp → (St → Hp → Prop) → Prop
def PG (X : Cx) (target : Expr) (t : TG) : Prop :=
  ∀ (pins : List (Addr × Obj)) (s : Shared) (σ : St) (H : Hp) (v : V) (u : Value) (Q : St → Hp → Prop), Inv X pins σ H s → RelV v u → t v σ H Q →
    wpAny (model X.prog X.w) X.A (assign target X.env u) (fun _ s' => ∃ σ' H', Inv X pins σ' H' s' ∧ Q σ' H') X.xe s
/-- several targets, one after another -/
def PGs (X : Cx) (ts : List Expr) (t : TGs) : Prop :=
  ∀ (pins : List (Addr × Obj)) (s : Shared) (σ : St) (H : Hp) (vs : List V) (us : List Value) (Q : St → Hp → Prop), Inv X pins σ H s → Vals vs us → t vs σ H Q →
    wpAny (model X.prog X.w) X.A (assignInOrder ((assignEach ts X.env).map (·.2)) us) (fun _ s' => ∃ σ' H', Inv X pins σ' H' s' ∧ Q σ' H') X.xe s
/-- o[i] = v, by values -/
abbrev TSet := V → V → V → Hp → (Hp → Prop) → Prop
def PSet (X : Cx) (t : TSet) : Prop :=
  ∀ (pins : List (Addr × Obj)) (s : Shared) (σ : St) (H : Hp) (o i v : V) (ov iv u : Value) (Q : Hp → Prop), Inv X pins σ H s → RelV o ov → RelV i iv → RelV v u → t o i v H Q →
    wpAny (model X.prog X.w) X.A (setItem ov iv u) (fun _ s' => ∃ H', Inv X pins σ H' s' ∧ Q H') X.xe s
/-- a op= b, by values -/
abbrev TIp := V → V → Hp → VK → Prop
def PIp (X : Cx) (op : Operator) (t : TIp) : Prop :=
  ∀ (pins : List (Addr × Obj)) (s : Shared) (σ : St) (H : Hp) (x y : V) (v u : Value) (Q : VK), Inv X pins σ H s → RelV x v → RelV y u → t x y H Q →
    wpAny (model X.prog X.w) X.A (inplaceOp op v u) (EP X pins σ Q) X.xe s
section
variable {X : Cx} {pos : Pos}
def gName (i : Nat) : TG := fun v σ H Q => Q (σ.set i (some v)) H
theorem pg_name {i : Nat} {x : Str} (hN : X.N.Nodup) (hi : X.N[i]? = some x) (hx : Loc X.env.scope x) (hf : X.fn x = true ∨ X.env.scope.names.lookup x = some .local := by first | exact .inl rfl | exact .inr rfl | assumption) : PG X (.Name x pos) (gName i) := by
  intro pins s σ H v u Q I r h
  exact wpAny_assign_Name (store_ok I hN hi hx r (fun s' I' => ⟨_, H, I', h⟩) hf)
def gNil : TGs := fun vs σ H Q => vs = [] ∧ Q σ H
def gCons (t : TG) (u : TGs) : TGs := fun vs σ H Q => ∃ v r, vs = v :: r ∧ t v σ H fun σ' H' => u r σ' H' Q
theorem pgs_nil : PGs X [] gNil := by
  intro pins s σ H vs us Q I r h
  obtain ⟨e, h⟩ := h
  subst e
  cases r
  exact assignInOrder_nil ⟨σ, H, I, h⟩
theorem pgs_cons {e : Expr} {es : List Expr} {t : TG} {u : TGs} (h1 : PG X e t) (h2 : PGs X es u)
    (hs : (assignEach (e :: es) X.env).map (·.2) = assign e X.env :: (assignEach es X.env).map (·.2) := by rfl) : PGs X (e :: es) (gCons t u) := by
  intro pins s σ H vs us Q I r h
  obtain ⟨v, vr, e1, h⟩ := h
  subst e1
  cases r with
  | cons r rr =>
    rw [hs]
    refine assignInOrder_cons (thn (h1 pins s σ H _ _ _ I r h) fun _ s1 ⟨σ1, H1, I1, q1⟩ => ?_)
    exact h2 pins s1 σ1 H1 _ _ Q I1 rr q1
/-- (a, b, ..) = a tuple of that length -/
def gTup (K : PySem.W.Frag) (n : Nat) (t : TGs) : TG := fun v σ H Q => ∃ a xs, v = .ref a ∧ SqT K H a xs ∧ xs.length = n ∧ t xs σ H Q
theorem pg_tup {es : List Expr} {k : Nat} {t : TGs} {n : Nat} (hc : X.calm = true) (h : PGs X es t)
    (hn : (assignEach es X.env).length = n := by rfl) (hst : (assignEach es X.env).findIdx? (·.1) = none := by rfl) : PG X (.Tuple es k pos) (gTup X.K n t) := by
  intro pins s σ H v u Q I r hw
  obtain ⟨a, xs, e1, hq, hl, hw⟩ := hw
  subst e1
  cases r
  obtain ⟨its, rv, ht, hz⟩ := I.tuple hq
  refine assign_Tuple_tuple (I.ok.hd hc) ht (by simp [hn, ← hl, rv.length]) hst fun h' hx => ?_
  have I1 : Inv X pins σ H { s with heap := h' } := I.kept (t' := s.toks) fun b o e => hx b o (Nat.ne_of_lt (Heap.lt_size e)) e
  exact h pins _ σ H xs _ Q I1 (by simpa using rv) hw
/-- o[i] = .. -/
def gSub (to ti : TE) (t : TSet) : TG := fun v σ H Q => to σ H fun o H1 => ti σ H1 fun i H2 => t o i v H2 fun H3 => Q σ H3
theorem pg_sub {o i : Expr} {to ti : TE} {t : TSet} (ho : PE X o to) (hi : PE X i ti) (hs : PSet X t)
    (ha : ∀ v, assign (.Subscript o i pos) X.env v = (do
      let ov ← holding [v] (eval o X.env)
      let iv ← holding [v, ov] (eval i X.env)
      standAt pos
      holding [v, ov, iv] (setItem ov iv v)
      release [v, ov, iv] []) := by intro _; rfl) : PG X (.Subscript o i pos) (gSub to ti t) := by
  intro pins s σ H v u Q I r h
  rw [ha]
  refine wpAny_bind (wpAny_holding (thn (ho pins s σ H _ I h) fun ov s1 ⟨x, H1, I1, r1, q1⟩ => ?_))
  refine wpAny_bind (wpAny_holding (thn (hi pins s1 σ H1 _ I1 q1) fun iv s2 ⟨y, H2, I2, r2, q2⟩ => ?_))
  refine wpAny_bind (wpAny_standAt (wpAny_bind (wpAny_holding (thn (hs pins s2 σ H2 x y v ov iv u _ I2 r1 r2 r q2) fun _ s3 ⟨H3, I3, q3⟩ => ?_))))
  exact wpAny_release ⟨σ, H3, I3, q3⟩
/-- target = value -/
def tAsg (te : TE) (g : TG) : TS := fun D σ H => te σ H fun x H1 => g x σ H1 D.nx
theorem ps_asg {tg e : Expr} {te : TE} {g : TG} (he : PE X e te) (hg : PG X tg g) (hs : swapsWithSole [tg] e pos.line X.env = pure false := by rfl) (hw : swappedStores [tg] e X.env = pure none := by rfl)
    (h1 : (assignEach [tg] X.env).map (·.2) = [assign tg X.env] := by rfl) : PS X (.Assign [tg] e pos) (tAsg te g) := by
  intro pins s σ H D I h
  refine wpAny_Assign_stores (thn (he pins s σ H _ I h) fun v s1 ⟨x, H1, I1, r1, q1⟩ => ?_) hs hw
  rw [h1]
  exact thn (hg pins s1 σ H1 x v _ I1 r1 q1) fun _ s2 q => q
/-- name = value -/
theorem ps_set {i : Nat} {x : Str} {e : Expr} {te : TE} {pos' : Pos} (hN : X.N.Nodup) (hi : X.N[i]? = some x) (hx : Loc X.env.scope x) (he : PE X e te) (hs : swapsWith e (some (.Name x pos')) pos.line X.env = pure false := by rfl) (hf : X.fn x = true ∨ X.env.scope.names.lookup x = some .local := by first | exact .inl rfl | exact .inr rfl | assumption) :
    PS X (.Assign [.Name x pos'] e pos) (tAsg te (gName i)) := by
  intro pins s σ H D I h
  refine wpAny_Assign_Name (thn (he pins s σ H _ I h) fun v s1 ⟨y, H1, I1, r1, q1⟩ => ?_) hs
  exact store_ok I1 hN hi hx r1 (fun s2 I2 => ⟨_, H1, I2, q1⟩) hf
/-- a, b = x, y with plain local names: stored from the right; the pair itself is not tracked (the opening rows as in PyProof/Rows/TupAssign.lean:23) -/
def tPar (i j : Nat) (ta : TA) : TS := fun D σ H => ta σ H fun vs H1 => ∃ v w, vs = [v, w] ∧ D.nx ((σ.set i (some v)).set j (some w)) H1
theorem ps_par {i j : Nat} {x y : Str} {a b : Expr} {ta : TA} {px py pt : Pos} {kt k2 pt2} (hc : X.calm = true) (hN : X.N.Nodup) (hi : X.N[i]? = some x) (hj : X.N[j]? = some y) (hij : i ≠ j)
    (hx : X.env.scope.names.lookup x = some .local) (hy : X.env.scope.names.lookup y = some .local) (ha : PA X [a, b] ta)
    (hw : swappedStores [.Tuple [.Name x px, .Name y py] kt pt] (.Tuple [a, b] k2 pt2) X.env = pure (some [x, y]))
    (hs : swapsWithSole [.Tuple [.Name x px, .Name y py] kt pt] (.Tuple [a, b] k2 pt2) pos.line X.env = pure false := by rfl) :
    PS X (.Assign [.Tuple [.Name x px, .Name y py] kt pt] (.Tuple [a, b] k2 pt2) pos) (tPar i j ta) := by
  intro pins s σ H D I h
  rw [exec_Assign_arm]
  refine wpAny_bind (wpAny_standAt ?_)
  rw [hs]
  refine wpAny_bind (wpAny_pure ?_)
  rw [if_neg (by decide)]
  refine wpAny_bind (Tuple_ (thn (ha _ pins s σ H _ I h) fun us s1 ⟨vs, H1, I1, r1, q1⟩ => ?_))
  obtain ⟨v, w, e1, q1⟩ := q1
  subst e1
  obtain ⟨u1, u2, rfl, rv, rw'⟩ : ∃ u1 u2, us = [u1, u2] ∧ RelV v u1 ∧ RelV w u2 := by
    cases r1 with
    | cons p q =>
      cases q with
      | cons p' q' =>
        cases q'
        exact ⟨_, _, rfl, p, p'⟩
  refine wpAny_newObj_type ?_ (by show 2 ≤ sizeLine; decide)
  have I2 : Inv X pins σ H1 { s1 with heap := s1.heap.push { cls := .type "tuple", data := .seq [u1, u2].toArray } } := I1.kept (t' := s1.toks) fun b o e => Heap.get?_push_of_some _ e
  rw [hw]
  refine wpAny_bind (wpAny_pure ?_)
  show wpAny (model X.prog X.w) X.A (do rule "assign.swapped-stores"; let items ← unpackItems (.ref s1.heap.objs.size) 2 none; assignInOrder [fun v => bindName X.env y v, fun v => bindName X.env x v] items.reverse; pure Flow.next) _ _ _
  refine wpAny_bind (wpAny_rule (wpAny_bind (unpackItems_tuple (items := #[u1, u2]) (I.ok.hd hc) (IsTup.new s1.heap _) fun h' hx' => ?_)))
  have I3 := I2.kept (h' := h') (t' := s1.toks) fun b o e => hx' b o (Nat.ne_of_lt (Heap.lt_size e)) e
  show wpAny _ _ (assignInOrder [fun v => bindName X.env y v, fun v => bindName X.env x v] [u2, u1] >>= fun _ => pure Flow.next) _ _ _
  refine wpAny_bind (assignInOrder_cons (wpAny_bindName (store_ok I3 hN hj (.inl hy) rw' (fun s2 I4 => ?_) (.inr hy))))
  refine assignInOrder_cons (wpAny_bindName (store_ok I4 hN hi (.inl hx) rv (fun s3 I5 => assignInOrder_nil (wpAny_pure ?_)) (.inr hx)))
  rw [List.set_comm _ _ (Ne.symm hij)] at I5
  exact ⟨_, H1, I5, q1⟩
/-- name op= e -/
def tAug (i : Nat) (te : TE) (ti : TIp) : TS := fun D σ H => ∃ x, σ[i]? = some (some x) ∧ te σ H fun y H1 => ti x y H1 fun z H2 => D.nx (σ.set i (some z)) H2
theorem ps_aug {i : Nat} {x : Str} {e : Expr} {te : TE} {op : Operator} {ti : TIp} {pos' : Pos} (hN : X.N.Nodup) (hi : X.N[i]? = some x) (hx : Loc X.env.scope x) (he : PE X e te) (ho : PIp X op ti) (hf : X.fn x = true ∨ X.env.scope.names.lookup x = some .local := by first | exact .inl rfl | exact .inr rfl | assumption) :
    PS X (.AugAssign (.Name x pos') op e pos) (tAug i te ti) := by
  intro pins s σ H D I h
  obtain ⟨v, e1, h⟩ := h
  obtain ⟨m, hn, hl⟩ := I.loc
  have vis : Vis X.env.scope x := by rcases hx with k | k; exact .inl k; exact .inr (.inl k)
  obtain ⟨u, r, l⟩ := hl i x v hi e1 vis
  refine wpAny_AugAssign_Name ?_
  have go : wpAny (model X.prog X.w) X.A (eval e X.env) (fun w s₂ => wpAny (model X.prog X.w) X.A (inplaceOp op u w) (fun r s₃ => wpAny (model X.prog X.w) X.A (storeName X.env x r) (fun _ => SP X pins D .next) X.xe s₃) X.xe s₂) X.xe s := by
    refine thn (he pins s σ H _ I h) fun w s1 ⟨y, H1, I1, r1, q1⟩ => ?_
    refine thn (ho pins s1 σ H1 v y u w _ I1 r r1 q1) fun z s2 ⟨zv, H2, I2, r2, q2⟩ => ?_
    exact store_ok I2 hN hi hx r2 (fun s3 I3 => ⟨_, H2, I3, q2⟩) hf
  rcases l with ⟨hk, hm⟩ | ⟨hk, c, hc, hcell⟩
  · exact wpAny_loadName_local I.ok.kind hk hn hm go
  · rcases hk with hk | hk
    · exact wpAny_loadName_cell I.ok.kind hk hc hcell go
    · rcases hx with k | k
      · have : X.env.scope.names.lookup x = some .free := hk
        rw [k] at this; cases this
      · have : X.env.scope.names.lookup x = some .free := hk
        rw [k] at this; cases this
/-- o[i] op= e -/
def tAugS (to ti te : TE) (tget : V → V → Hp → VK → Prop) (tip : TIp) (tset : TSet) : TS := fun D σ H => to σ H fun o H1 => ti σ H1 fun i H2 => tget o i H2 fun x H3 => te σ H3 fun y H4 => tip x y H4 fun z H5 => tset o i z H5 fun H6 => D.nx σ H6
/-- o[i], by values -/
def PGet (X : Cx) (t : V → V → Hp → VK → Prop) : Prop :=
  ∀ (pins : List (Addr × Obj)) (s : Shared) (σ : St) (H : Hp) (o i : V) (ov iv : Value) (Q : VK), Inv X pins σ H s → RelV o ov → RelV i iv → t o i H Q →
    wpAny (model X.prog X.w) X.A (getItem ov iv) (EP X pins σ Q) X.xe s
theorem ps_augS {o i e : Expr} {to ti te : TE} {tget : V → V → Hp → VK → Prop} {tip : TIp} {tset : TSet} {op : Operator} {tpos : Pos} (ho : PE X o to) (hi : PE X i ti) (hg : PGet X tget) (he : PE X e te) (hp : PIp X op tip) (hs : PSet X tset)
    (ha : ∀ ov iv new, augStore i ov iv new = (do holding [new, ov, iv] (setItem ov iv new); release [new, ov, iv] []; pure .next) := by intros; rfl) : PS X (.AugAssign (.Subscript o i tpos) op e pos) (tAugS to ti te tget tip tset) := by
  intro pins s σ H D I h
  refine wpAny_AugAssign_SubscriptAny (thn (ho pins s σ H _ I h) fun ov s1 ⟨x1, H1, I1, r1, q1⟩ => ?_) ha
  refine thn (hi pins s1 σ H1 _ I1 q1) fun iv s2 ⟨x2, H2, I2, r2, q2⟩ => ?_
  refine thn (hg pins s2 σ H2 x1 x2 ov iv _ I2 r1 r2 q2) fun old s3 ⟨x3, H3, I3, r3, q3⟩ => ?_
  refine thn (he pins s3 σ H3 _ I3 q3) fun v s4 ⟨x4, H4, I4, r4, q4⟩ => ?_
  refine thn (hp pins s4 σ H4 x3 x4 old v _ I4 r3 r4 q4) fun new s5 ⟨x5, H5, I5, r5, q5⟩ => ?_
  exact thn (hs pins s5 σ H5 x1 x2 x5 ov iv new _ I5 r1 r2 r5 q5) fun _ s6 ⟨H6, I6, q6⟩ => ⟨σ, H6, I6, q6⟩
/-- ints -/
def ipI (f : Int → Int → Int) : TIp := fun x y H Q => ∃ i j, x = .int i ∧ y = .int j ∧ Q (.int (f i j)) H
theorem ip_add : PIp X .Add (ipI fun i j => i + j) := by
  intro pins s σ H x y v u Q I r1 r2 h
  obtain ⟨i, j, e1, e2, q⟩ := h
  subst e1; subst e2
  obtain ⟨t, rfl⟩ := r1
  obtain ⟨t', rfl⟩ := r2
  exact iadd_int ⟨.int _, H, I.tok _, ⟨_, rfl⟩, q⟩
theorem ip_sub : PIp X .Sub (ipI fun i j => i - j) := by
  intro pins s σ H x y v u Q I r1 r2 h
  obtain ⟨i, j, e1, e2, q⟩ := h
  subst e1; subst e2
  obtain ⟨t, rfl⟩ := r1
  obtain ⟨t', rfl⟩ := r2
  exact isub_int ⟨.int _, H, I.tok _, ⟨_, rfl⟩, q⟩
end

/-! ### while -/
section
variable {X : Cx} {pos : Pos}
/-- the invariant W with its measure -/
def tWhile (c : TT) (tb : TS) : TS := fun D σ H => ∃ W : Nat → St → Hp → Prop, (∃ m, W m σ H) ∧ ∀ m σ H, W m σ H →
  c σ H fun b H1 => if b = true then ∃ N : St → Hp → Prop, (∀ σ' H', N σ' H' → ∃ m', m' < m ∧ W m' σ' H') ∧ tb { D with nx := N, ct := N, bk := D.nx } σ H1 else D.nx σ H1
theorem ps_while {c : Expr} {body : List Stmt} {tc : TT} {tb : TS} (hp : PassesOwn (model X.prog X.w) X.A X.env X.xe) (hc : PT X c tc) (hb : PSs X body tb) : PS X (.While c body [] pos) (tWhile tc tb) := by
  intro pins s σ H D I h
  obtain ⟨W, ⟨m0, w0⟩, turn⟩ := h
  refine wpAny_While (codeAny_whileLoop (fun n s' => ∃ σ' H', Inv X pins σ' H' s' ∧ W n σ' H') ?_ m0 ⟨σ, H, I, w0⟩)
  rintro n s1 ⟨σ1, H1, I1, w1⟩
  refine wpAny_passesOwn hp (thn (hc pins s1 σ1 H1 _ I1 (turn n σ1 H1 w1)) fun b s2 ⟨H2, I2, q2⟩ => ?_)
  cases b with
  | true =>
    obtain ⟨N, hN, q2⟩ := q2
    rw [if_pos rfl]
    refine wpAny_passesOwn hp (thn (hb pins s2 σ1 H2 _ I2 q2) fun f s3 q3 => ?_)
    cases f with
    | next =>
      obtain ⟨σ3, H3, I3, n3⟩ := q3
      obtain ⟨m', hm, w3⟩ := hN σ3 H3 n3
      exact ⟨m', hm, σ3, H3, I3, w3⟩
    | cont =>
      obtain ⟨σ3, H3, I3, n3⟩ := q3
      obtain ⟨m', hm, w3⟩ := hN σ3 H3 n3
      exact ⟨m', hm, σ3, H3, I3, w3⟩
    | brk => exact q3
    | ret v => exact q3
  | false =>
    rw [if_neg Bool.false_ne_true]
    exact wpAny_execs_nil ⟨σ1, H2, I2, q2⟩
end

/-! ### what a loop or a comprehension walks -/
/-- at turn i: it yields x (the heap may grow), or it stops -/
structure It where
  go : Nat → Hp → Prop
  yld : Nat → Hp → V → Hp → Prop
  stop : Nat → Hp → Prop
/-- the iterator's own objects may turn: they are not the frame's, not pinned, younger than the entry (or a comprehension's own) -/
def FpOk (X : Cx) (pins : List (Addr × Obj)) (H : Hp) (b : Addr) : Prop :=
  H b = none ∧ b ≠ X.env.locals ∧ b ∉ X.fs ∧ (b ∈ X.ex ∨ X.s₀.heap.objs.size ≤ b) ∧ (∀ x c, X.env.cells.lookup x = some c → c ≠ b) ∧ ∀ p ∈ X.pn ++ pins, p.1 ≠ b
theorem Inv.fpOk {X : Cx} {pins : List (Addr × Obj)} {σ : St} {H H' : Hp} {s : Shared} {b : Addr} (I : Inv X pins σ H s) (hb : s.heap.objs.size ≤ b) (hn : H' b = none) : FpOk X pins H' b := by
  refine ⟨hn, Nat.ne_of_gt (Nat.lt_of_lt_of_le I.lt hb), I.nofs hb, .inr (Nat.le_trans I.sz hb), fun x c e z => ?_, fun p hp z => ?_⟩
  · obtain ⟨v, q⟩ := I.cell x c e
    exact absurd (Nat.lt_of_lt_of_le q.lt (by rw [z]; exact hb)) (Nat.lt_irrefl _)
  · exact absurd (Nat.lt_of_lt_of_le (Heap.lt_size (I.pin p hp).1) (by rw [z]; exact hb)) (Nat.lt_irrefl _)
structure Turn (P : Program) (w : World) (K : PySem.W.Frag) (tg : Expr) (J : It) (fp : List Addr) (it : Addr) (tn : Nat → Heap → Prop) : Prop where
  mem : it ∈ fp
  obj : ∀ i h, tn i h → ∀ b ∈ fp, ∃ o, h.get? b = some o ∧ ∀ v, o.data ≠ .cell v
  keep : ∀ i h h', tn i h → (∀ b ∈ fp, ∀ o, h.get? b = some o → h'.get? b = some o) → tn i h'
  item : ∀ (X : Cx), X.prog = P → X.w = w → X.K = K → X.calm = true → ∀ (i : Nat) (pins : List (Addr × Obj)) (s : Shared) (σ : St) (H : Hp) (E : Value → Shared → Prop), Inv X pins σ H s → (∀ b ∈ fp, FpOk X pins H b) → tn i s.heap → J.go i H →
    wpAny (model P w) X.A (pyNext (.ref it)) (fun r s1 => ∃ u, r = some u ∧
      wpAny (model P w) X.A (letOwnedTupleGo tg (.ref it) u) (fun _ s2 => ∃ x H', Inv X pins σ H' s2 ∧ RelV x u ∧ J.yld i H x H' ∧ tn (i + 1) s2.heap ∧ ∀ b ∈ fp, H' b = none) E s1) E s
  done : ∀ (X : Cx), X.prog = P → X.w = w → X.K = K → X.calm = true → ∀ (i : Nat) (pins : List (Addr × Obj)) (s : Shared) (σ : St) (H : Hp) (E : Value → Shared → Prop), Inv X pins σ H s → (∀ b ∈ fp, FpOk X pins H b) → tn i s.heap → J.stop i H →
    wpAny (model P w) X.A (pyNext (.ref it)) (fun r s1 => r = none ∧ Inv X pins σ H s1) E s
  self : ∀ (A : Around) (i : Nat) (s : Shared) (Q : Value → Shared → Prop) (E : Value → Shared → Prop), tn i s.heap → Q (.ref it) s → wpAny (model P w) A (pyIter (.ref it)) Q E s
abbrev TI := St → Hp → (It → Hp → Prop) → Prop
/-- an iterator has come -/
def PIE (X : Cx) (pins : List (Addr × Obj)) (σ : St) (tg : Expr) (R : It → Hp → Prop) (itv : Value) (s2 : Shared) : Prop :=
  ∃ (it : Addr) (fp : List Addr) (tn : Nat → Heap → Prop) (J : It) (H' : Hp), itv = .ref it ∧ Inv X pins σ H' s2 ∧ Turn X.prog X.w X.K tg J fp it tn ∧ tn 0 s2.heap ∧ (∀ b ∈ fp, FpOk X pins H' b) ∧ R J H'
def PI (X : Cx) (tg iter : Expr) (wi : TI) : Prop :=
  ∀ (pins : List (Addr × Obj)) (s : Shared) (σ : St) (H : Hp) (R : It → Hp → Prop), Inv X pins σ H s → wi σ H R →
    wpAny (model X.prog X.w) X.A (eval iter X.env) (fun v s1 => wpAny (model X.prog X.w) X.A (pyIter v) (PIE X pins σ tg R) X.xe s1) X.xe s

/-- the step ahead of the store is nothing for an iterator that keeps no tuple -/
theorem go_of {M : Model} {A : Around} {E : Value → Shared → Prop} {s : Shared} {tg : Expr} {it : Addr} {u : Value} {o : Obj} {n : String} {vs : Array Value} {Q : Unit → Shared → Prop} (ho : s.heap.get? it = some o) (hc : o.cls = .type n) (hd : o.data = .fields vs)
    (hn : ["enumerate", "zip", "dict_itemiterator", "dict_reverseitemiterator", "odict_iterator", "itertools.zip_longest", "itertools.pairwise"].contains n = false) (hQ : Q () s) : wpAny M A (letOwnedTupleGo tg (.ref it) u) Q E s := by
  unfold letOwnedTupleGo
  cases tg <;> first
    | exact wpAny_pure hQ
    | (cases u <;> first
        | exact wpAny_pure hQ
        | (refine wpAny_bind (wpAny_load ho ?_)
           rw [hc, hd]
           show wpAny M A (if (["enumerate", "zip", "dict_itemiterator", "dict_reverseitemiterator", "odict_iterator", "itertools.zip_longest", "itertools.pairwise"].contains n && vs[0]? == some (rawInt _)) = true then _ else _) Q E s
           rw [if_neg (by intro h; rw [hn, Bool.false_and] at h; cases h)]
           exact wpAny_pure hQ))

/-- the list at a, as it stands at each turn (a loop may append to it) -/
def Itl (K : PySem.W.Frag) (a : Addr) : It :=
  ⟨fun i H => ∃ xs x, SqL K H a xs ∧ xs[i]? = some x, fun i H x H' => H' = H ∧ ∀ xs, SqL K H a xs → xs[i]? = some x, fun i H => ∃ xs, SqL K H a xs ∧ xs.length ≤ i⟩
def Itt (K : PySem.W.Frag) (a : Addr) : It :=
  ⟨fun i H => ∃ xs x, SqT K H a xs ∧ xs[i]? = some x, fun i H x H' => H' = H ∧ ∀ xs, SqT K H a xs → xs[i]? = some x, fun i H => ∃ xs, SqT K H a xs ∧ xs.length ≤ i⟩
/-- lo, lo + 1, .. (n of them) -/
def Itr (lo : Int) (n : Nat) : It := ⟨fun i _ => i < n, fun i H x H' => H' = H ∧ x = .int (lo + i), fun i _ => n ≤ i⟩
theorem turn_list {P : Program} {w : World} {K : PySem.W.Frag} {tg : Expr} (a it : Addr) : Turn P w K tg (Itl K a) [it] it (fun i h => h.IsListIter it a i) where
  mem := by simp
  obj := fun i h st b hb => by
    have e : b = it := by simpa using hb
    subst e
    obtain ⟨o, e, c, d⟩ := st
    exact ⟨o, e, fun v z => by rw [d] at z; cases z⟩
  keep := fun i h h' st k => st.at fun o e => k it (by simp) o e
  item := by
    intro X hP hw hK hc i pins s σ H E I hf st hg
    subst hP hw hK
    obtain ⟨xs, x, hq, hx⟩ := hg
    obtain ⟨its, rv, p, hz⟩ := I.list hq
    obtain ⟨u, hu, ru⟩ := rv.get hx
    obtain ⟨f0, f1, f2, f3, f4, f5⟩ := hf it (by simp)
    refine wpAny_pyNext_list_item st p.isList (x := u) (by simpa using hu) fun h' st' sb => ?_
    have I1 : Inv X pins σ H { s with heap := h' } := I.turned (t' := s.toks) (fun b o hb e => (sb.2 b hb).trans e) f0 f1 f3 f4 f5
    obtain ⟨o, e, c, d⟩ := id st'
    exact ⟨u, rfl, go_of (s := { s with heap := h' }) e c d (by decide) ⟨x, H, I1, ru, ⟨rfl, fun ys hy => by rw [I.list_inj hy hq]; exact hx⟩, st', fun b hb => (hf b hb).1⟩⟩
  done := by
    intro X hP hw hK hc i pins s σ H E I hf st hg
    subst hP hw hK
    obtain ⟨xs, hq, hx⟩ := hg
    obtain ⟨its, rv, p, hz⟩ := I.list hq
    obtain ⟨f0, f1, f2, f3, f4, f5⟩ := hf it (by simp)
    have hl := rv.length
    exact wpAny_pyNext_list_end (I.ok.hd hc) st p.isList (by simp; omega) fun h' eb => ⟨rfl, I.turned (t' := s.toks) (fun b o hb e => eb b o hb e) f0 f1 f3 f4 f5⟩
  self := fun _ _ _ _ _ st h => wpAny_pyIter_listiter st h
theorem turn_tuple {P : Program} {w : World} {K : PySem.W.Frag} {tg : Expr} (a it : Addr) : Turn P w K tg (Itt K a) [it] it (fun i h => h.IsTupleIter it a i) where
  mem := by simp
  obj := fun i h st b hb => by
    have e : b = it := by simpa using hb
    subst e
    obtain ⟨o, e, c, d⟩ := st
    exact ⟨o, e, fun v z => by rw [d] at z; cases z⟩
  keep := fun i h h' st k => st.at fun o e => k it (by simp) o e
  item := by
    intro X hP hw hK hc i pins s σ H E I hf st hg
    subst hP hw hK
    obtain ⟨xs, x, hq, hx⟩ := hg
    obtain ⟨its, rv, p, hz⟩ := I.tuple hq
    obtain ⟨u, hu, ru⟩ := rv.get hx
    obtain ⟨f0, f1, f2, f3, f4, f5⟩ := hf it (by simp)
    refine wpAny_pyNext_tuple_item st (show s.heap.IsTuple a its.toArray from p) (x := u) (by simpa using hu) fun h' st' sb => ?_
    have I1 : Inv X pins σ H { s with heap := h' } := I.turned (t' := s.toks) (fun b o hb e => (sb.2 b hb).trans e) f0 f1 f3 f4 f5
    obtain ⟨o, e, c, d⟩ := id st'
    exact ⟨u, rfl, go_of (s := { s with heap := h' }) e c d (by decide) ⟨x, H, I1, ru, ⟨rfl, fun ys hy => by rw [I.tuple_inj hy hq]; exact hx⟩, st', fun b hb => (hf b hb).1⟩⟩
  done := by
    intro X hP hw hK hc i pins s σ H E I hf st hg
    subst hP hw hK
    obtain ⟨xs, hq, hx⟩ := hg
    obtain ⟨its, rv, p, hz⟩ := I.tuple hq
    obtain ⟨f0, f1, f2, f3, f4, f5⟩ := hf it (by simp)
    have hl := rv.length
    exact wpAny_pyNext_tuple_end (I.ok.hd hc) st (show s.heap.IsTuple a its.toArray from p) (by simp; omega) fun h' eb => ⟨rfl, I.turned (t' := s.toks) (fun b o hb e => eb b o hb e) f0 f1 f3 f4 f5⟩
  self := fun _ _ _ _ _ st h => wpAny_pyIter_tupleiter st h
theorem turn_range {P : Program} {w : World} {K : PySem.W.Frag} {tg : Expr} (it : Addr) (lo : Int) (n : Nat) : Turn P w K tg (Itr lo n) [it] it (fun i h => IsRangeIter h it (lo + (i : Nat) * 1) ((n : Int) - (i : Nat)) 1) where
  mem := by simp
  obj := fun i h st b hb => by
    have e : b = it := by simpa using hb
    subst e
    exact ⟨_, st, fun v z => by
      have z' : Data.fields _ = Data.cell v := z
      cases z'⟩
  keep := fun i h h' st k => k it (by simp) _ st
  item := by
    intro X hP hw hK hc i pins s σ H E I hf st hg
    subst hP hw hK
    obtain ⟨f0, f1, f2, f3, f4, f5⟩ := hf it (by simp)
    have W := Walks.range (prog := X.prog) (w := X.w) (I.ok.hd hc) it lo 1 n
    refine W.item i s _ _ hg st fun v h' tk hv st' kk => ?_
    obtain ⟨t, rfl⟩ := hv
    have I1 : Inv X pins σ H { s with heap := h', toks := tk } := I.turned (fun b o hb e => kk b o (by simpa using hb) e) f0 f1 f3 f4 f5
    refine ⟨_, rfl, go_of (s := { s with heap := h', toks := tk }) (n := "range_iterator") st' rfl rfl (by decide) ⟨.int (lo + i), H, I1, ⟨t, ?_⟩, ⟨rfl, rfl⟩, st', fun b hb => (hf b hb).1⟩⟩
    rw [Int.mul_one]
  done := by
    intro X hP hw hK hc i pins s σ H E I hf st hg
    subst hP hw hK
    obtain ⟨f0, f1, f2, f3, f4, f5⟩ := hf it (by simp)
    exact wpAny_pyNext_range_end (I.ok.hd hc) st (by have : n ≤ i := hg; omega) fun h' eb => ⟨rfl, I.turned (t' := s.toks) (fun b o hb e => eb b o hb e) f0 f1 f3 f4 f5⟩
  self := fun _ _ _ _ _ st h => wpAny_pyIter_rangeiter st h
end L2

namespace L2
open PySem PySem.Spec PyProof.Rows
section
variable {X : Cx} {tg : Expr}
def iList (K : PySem.W.Frag) (tl : TE) : TI := fun σ H R => tl σ H fun x H1 => ∃ a, x = .ref a ∧ (∃ xs, SqL K H1 a xs) ∧ R (Itl K a) H1
def iTup (K : PySem.W.Frag) (tl : TE) : TI := fun σ H R => tl σ H fun x H1 => ∃ a, x = .ref a ∧ (∃ xs, SqT K H1 a xs) ∧ R (Itt K a) H1
theorem pi_list {l : Expr} {tl : TE} (hl : PE X l tl) : PI X tg l (iList X.K tl) := by
  intro pins s σ H R I h
  refine thn (hl pins s σ H _ I h) fun v s1 ⟨x, H1, I1, r1, q1⟩ => ?_
  obtain ⟨a, e, ⟨xs, hq⟩, q⟩ := q1
  subst e
  cases r1
  obtain ⟨its, rv, p, hz⟩ := I1.list hq
  refine wpAny_pyIter_list p.isList ?_
  refine ⟨s1.heap.objs.size, [s1.heap.objs.size], _, _, H1, rfl, I1.kept (t' := s1.toks) fun b o e => Heap.get?_push_of_some _ e, turn_list a _, ⟨_, Heap.get?_push_size _ rfl, rfl, rfl⟩, fun b hb => ?_, q⟩
  have e : b = s1.heap.objs.size := by simpa using hb
  subst e
  exact I1.fpOk (Nat.le_refl _) (I1.hok.fresh (Nat.le_refl _))
theorem pi_tup {l : Expr} {tl : TE} (hl : PE X l tl) : PI X tg l (iTup X.K tl) := by
  intro pins s σ H R I h
  refine thn (hl pins s σ H _ I h) fun v s1 ⟨x, H1, I1, r1, q1⟩ => ?_
  obtain ⟨a, e, ⟨xs, hq⟩, q⟩ := q1
  subst e
  cases r1
  obtain ⟨its, rv, p, hz⟩ := I1.tuple hq
  refine wpAny_pyIter_tuple (show s1.heap.IsTuple a its.toArray from p) ?_
  refine ⟨s1.heap.objs.size, [s1.heap.objs.size], _, _, H1, rfl, I1.kept (t' := s1.toks) fun b o e => Heap.get?_push_of_some _ e, turn_tuple a _, ⟨_, Heap.get?_push_size _ rfl, rfl, rfl⟩, fun b hb => ?_, q⟩
  have e : b = s1.heap.objs.size := by simpa using hb
  subst e
  exact I1.fpOk (Nat.le_refl _) (I1.hok.fresh (Nat.le_refl _))
/-- a range object just made, walked -/
theorem range_it {pins : List (Addr × Obj)} {σ : St} {H : Hp} {s : Shared} {R : It → Hp → Prop} {E : Value → Shared → Prop} {lo hi : Int} {t u v : Tok} {tk : Nat} (I : Inv X pins σ H s) (h1 : -(2 ^ 62) ≤ lo) (h2 : lo < 2 ^ 62) (h3 : -(2 ^ 62) ≤ hi) (h4 : hi < 2 ^ 62)
    (q : R (Itr lo (hi - lo).toNat) H) : wpAny (model X.prog X.w) X.A (pyIter (.ref s.heap.objs.size)) (PIE X pins σ tg R) E { s with heap := s.heap.push { cls := .type "range", data := .fields #[.int lo t, .int hi u, .int 1 v] }, toks := tk } := by
  refine wpAny_pyIter_range (IsRange.new ..) (small_one h1 h2 h3 h4) ?_
  have I1 : Inv X pins σ H { s with heap := s.heap.push { cls := .type "range", data := .fields #[.int lo t, .int hi u, .int 1 v] }, toks := tk } := I.kept fun b o e => Heap.get?_push_of_some _ e
  refine ⟨(s.heap.push { cls := .type "range", data := .fields #[.int lo t, .int hi u, .int 1 v] }).objs.size, [(s.heap.push { cls := .type "range", data := .fields #[.int lo t, .int hi u, .int 1 v] }).objs.size], _, _, H, rfl,
    I1.kept (t' := tk) fun b o e => Heap.get?_push_of_some _ e, turn_range _ lo (hi - lo).toNat, ?_, fun b hb => ?_, q⟩
  · have e1 : lo + ((0 : Nat) : Int) * 1 = lo := by simp
    have e2 : (((hi - lo).toNat : Nat) : Int) - ((0 : Nat) : Int) = Builtin.Range.rangeSize lo hi 1 := by rw [rangeSize_one]; split <;> omega
    show IsRangeIter _ _ (lo + ((0 : Nat) : Int) * 1) ((((hi - lo).toNat : Nat) : Int) - ((0 : Nat) : Int)) 1
    rw [e1, e2]
    exact Heap.get?_push_size _ rfl
  · have e : b = (s.heap.push { cls := .type "range", data := .fields #[.int lo t, .int hi u, .int 1 v] }).objs.size := by simpa using hb
    subst e
    exact I1.fpOk (Nat.le_refl _) (I1.hok.fresh (Nat.le_refl _))
def iRng1 (ta : TA) : TI := fun σ H R => ta σ H fun vs H1 => ∃ j : Int, vs = [.int j] ∧ -(2 ^ 62) ≤ j ∧ j < 2 ^ 62 ∧ R (Itr 0 j.toNat) H1
def iRng2 (ta : TA) : TI := fun σ H R => ta σ H fun vs H1 => ∃ i j : Int, vs = [.int i, .int j] ∧ (-(2 ^ 62) ≤ i ∧ i < 2 ^ 62 ∧ -(2 ^ 62) ≤ j ∧ j < 2 ^ 62) ∧ R (Itr i (j - i).toNat) H1
theorem pi_range1 {a : Expr} {ta : TA} {p pos : Pos} (hg : Gl X "range") (hm : X.mg "range" = none) (ha : PA X [a] ta) (hs : starEach [a] X.env = [(false, eval a X.env)] := by rfl) : PI X tg (.Call (.Name "range" p) [a] [] pos) (iRng1 ta) := by
  intro pins s σ H R I h
  refine Call_ (ld_blt I hg hm boot_range (PyProof.Rows.callWith_type1 (thn (ha pos pins s σ H _ I h) fun us s1 ⟨vs, H1, I1, r1, q1⟩ => ?_) hs rfl))
  obtain ⟨j, e, q1, q2, q⟩ := q1
  subst e
  cases r1 with
  | cons r rr =>
    cases rr
    obtain ⟨t, rfl⟩ := r
    exact call_range_1 (range_it I1 (by omega) (by omega) q1 q2 (by simpa using q))
theorem pi_range2 {a b : Expr} {ta : TA} {p pos : Pos} (hg : Gl X "range") (hm : X.mg "range" = none) (ha : PA X [a, b] ta) (hs : starEach [a, b] X.env = [(false, eval a X.env), (false, eval b X.env)] := by rfl) (hs2 : starEach [b] X.env = [(false, eval b X.env)] := by rfl) :
    PI X tg (.Call (.Name "range" p) [a, b] [] pos) (iRng2 ta) := by
  intro pins s σ H R I h
  refine Call_ (ld_blt I hg hm boot_range (PyProof.Rows.callWith_type1 (thn (ha pos pins s σ H _ I h) fun us s1 ⟨vs, H1, I1, r1, q1⟩ => ?_) (by rw [hs, hs2]) (by rw [hs2]; rfl)))
  obtain ⟨i, j, e, ⟨q1, q2, q3, q4⟩, q⟩ := q1
  subst e
  cases r1 with
  | cons r rr =>
    cases rr with
    | cons r' rr =>
      cases rr
      obtain ⟨t, rfl⟩ := r
      obtain ⟨t', rfl⟩ := r'
      exact call_range_2 (range_it I1 q1 q2 q3 q4 q)

/-! ### for -/
/-- W: the invariant by the turn and a measure; N: what the body is to reach -/
def tFor (wi : TI) (g : TG) (tb : TS) : TS := fun D σ H => wi σ H fun J H1 => ∃ W : Nat → Nat → St → Hp → Prop, (∃ m, W 0 m σ H1) ∧ ∀ i m σ H, W i m σ H →
  (J.stop i H ∧ D.nx σ H) ∨ (J.go i H ∧ ∃ N : St → Hp → Prop, (∀ σ' H', N σ' H' → ∃ m', m' < m ∧ W (i + 1) m' σ' H') ∧ ∀ x H', J.yld i H x H' → g x σ H' fun σ2 H2 => tb { D with nx := N, ct := N, bk := D.nx } σ2 H2)
/-- the records at fp as they stand -/
def pinsAt (fp : List Addr) (h : Heap) : List (Addr × Obj) := fp.filterMap fun b => (h.get? b).map fun o => (b, o)
theorem mem_pinsAt {fp : List Addr} {h : Heap} {b : Addr} {o : Obj} (hb : b ∈ fp) (e : h.get? b = some o) : (b, o) ∈ pinsAt fp h := List.mem_filterMap.mpr ⟨b, hb, by rw [e]; rfl⟩
theorem of_pinsAt {fp : List Addr} {h : Heap} {p : Addr × Obj} (hp : p ∈ pinsAt fp h) : p.1 ∈ fp ∧ h.get? p.1 = some p.2 := by
  obtain ⟨b, hb, e⟩ := List.mem_filterMap.mp hp
  cases q : h.get? b with
  | none => rw [q] at e; cases e
  | some o =>
    rw [q] at e
    have e' : (b, o) = p := Option.some.inj e
    subst e'
    exact ⟨hb, q⟩
theorem Inv.pinned {pins : List (Addr × Obj)} {σ : St} {H : Hp} {s : Shared} {fp : List Addr} (I : Inv X pins σ H s) (hf : ∀ b ∈ fp, FpOk X pins H b) (ho : ∀ b ∈ fp, ∃ o, s.heap.get? b = some o ∧ ∀ v, o.data ≠ .cell v) : Inv X (pins ++ pinsAt fp s.heap) σ H s :=
  I.pins_of fun p hp => (List.mem_append.mp hp).elim (fun z => I.pin p (List.mem_append_right _ z)) fun z => by
    obtain ⟨hb, e⟩ := of_pinsAt z
    obtain ⟨f0, f1, f2, _⟩ := hf p.1 hb
    obtain ⟨o, e', d⟩ := ho p.1 hb
    rw [e] at e'; cases e'
    exact ⟨e, f0, f1, f2, d⟩
theorem Inv.unpinned {pins pl : List (Addr × Obj)} {σ : St} {H : Hp} {s : Shared} (I : Inv X (pins ++ pl) σ H s) : Inv X pins σ H s := I.pins_of fun p hp => I.pin p (List.mem_append_right _ (List.mem_append_left _ hp))
theorem ps_for {iter : Expr} {body : List Stmt} {wi : TI} {g : TG} {tb : TS} {pos : Pos} (hp : PassesOwn (model X.prog X.w) X.A X.env X.xe) (hc : X.calm = true) (hi : PI X tg iter wi) (hg : PG X tg g) (hb : PSs X body tb)
    (hs : ∀ x, foldedSetIterable iter X.env x = pure x := by intro _; rfl) : PS X (.For tg iter body [] pos) (tFor wi g tb) := by
  intro pins s σ H D I h
  refine wpAny_For (thn (hi pins s σ H _ I h) fun v s1 h1 => thn h1 fun itv s2 h2 => ?_) hs
  obtain ⟨it, fp, tn, J, H2, e, I2, T, st2, f2, W, ⟨m0, w0⟩, turn⟩ := h2
  subst e
  -- what stays true of the iterator's objects through the loop
  have stat : ∀ {H' : Hp}, (∀ b ∈ fp, H' b = none) → ∀ b ∈ fp, FpOk X pins H' b := fun hn b hb => ⟨hn b hb, (f2 b hb).2⟩
  refine codeAny_forLoop_any (fun n s' => ∃ i σ' H', Inv X pins σ' H' s' ∧ tn i s'.heap ∧ (∀ b ∈ fp, H' b = none) ∧ W i n σ' H') ?_ m0 ⟨0, σ, H2, I2, st2, fun b hb => (f2 b hb).1, w0⟩
  rintro n s3 ⟨i, σ3, H3, I3, st3, fr3, w3⟩
  rcases turn i n σ3 H3 w3 with ⟨stop, qn⟩ | ⟨go, N, hN, step⟩
  · refine wpAny_passesOwn hp (thn (T.done X rfl rfl rfl hc i pins s3 σ3 H3 X.xe I3 (stat fr3) st3 stop) fun r s4 ⟨hr, I4⟩ => ?_)
    subst hr
    exact wpAny_execs_nil ⟨σ3, H3, I4, qn⟩
  · refine wpAny_passesOwn hp (thn (T.item X rfl rfl rfl hc i pins s3 σ3 H3 X.xe I3 (stat fr3) st3 go) fun r s4 ⟨u, hr, h4⟩ => ?_)
    subst hr
    refine wpAny_passesOwn hp (thn h4 fun _ s5 ⟨x, H5, I5, r5, y5, st5, fr5⟩ => ?_)
    have I5' := I5.pinned (stat fr5) (T.obj _ _ st5)
    refine wpAny_passesOwn hp (thn (hg _ s5 σ3 H5 x u _ I5' r5 (step x H5 y5)) fun _ s6 ⟨σ6, H6, I6, q6⟩ => ?_)
    refine wpAny_passesOwn hp (thn (hb _ s6 σ6 H6 _ I6 q6) fun f s7 q7 => ?_)
    have again : ∀ {σ7 : St} {H7 : Hp}, Inv X (pins ++ pinsAt fp s5.heap) σ7 H7 s7 → N σ7 H7 → ∃ m, m < n ∧ ∃ i σ' H', Inv X pins σ' H' s7 ∧ tn i s7.heap ∧ (∀ b ∈ fp, H' b = none) ∧ W i m σ' H' := fun {σ7 H7} I7 n7 => by
      obtain ⟨m', hm, w7⟩ := hN σ7 H7 n7
      refine ⟨m', hm, i + 1, σ7, H7, I7.unpinned, T.keep _ _ _ st5 fun b hb o e => (I7.pin (b, o) (List.mem_append_right _ (List.mem_append_right _ (mem_pinsAt hb e)))).1, fun b hb => ?_, w7⟩
      obtain ⟨o, e, d⟩ := T.obj _ _ st5 b hb
      exact (I7.pin (b, o) (List.mem_append_right _ (List.mem_append_right _ (mem_pinsAt hb e)))).2.1
    cases f with
    | next => obtain ⟨σ7, H7, I7, n7⟩ := q7; exact again I7 n7
    | cont => obtain ⟨σ7, H7, I7, n7⟩ := q7; exact again I7 n7
    | brk => obtain ⟨σ7, H7, I7, q7⟩ := q7; exact ⟨σ7, H7, I7.unpinned, q7⟩
    | ret v => obtain ⟨x7, σ7, H7, I7, r7, q7⟩ := q7; exact ⟨x7, σ7, H7, I7.unpinned, r7, q7⟩
end

/-! ### the forms one uses -/
/-- over a list that the body leaves as it is -/
theorem for_list {K : PySem.W.Frag} {a : Addr} {xs : List V} {g : TG} {tb : TS} {D : Ends} {σ : St} {H : Hp} (Pv : Nat → St → Hp → Prop) (h0 : Pv 0 σ H) (hl : ∀ i σ H, i ≤ xs.length → Pv i σ H → SqL K H a xs)
    (hs : ∀ i x σ H, xs[i]? = some x → Pv i σ H → g x σ H fun σ2 H2 => tb { D with nx := Pv (i + 1), ct := Pv (i + 1), bk := D.nx } σ2 H2) (hd : ∀ σ H, Pv xs.length σ H → D.nx σ H) :
    ∃ W : Nat → Nat → St → Hp → Prop, (∃ m, W 0 m σ H) ∧ ∀ i m σ H, W i m σ H →
      ((Itl K a).stop i H ∧ D.nx σ H) ∨ ((Itl K a).go i H ∧ ∃ N : St → Hp → Prop, (∀ σ' H', N σ' H' → ∃ m', m' < m ∧ W (i + 1) m' σ' H') ∧ ∀ x H', (Itl K a).yld i H x H' → g x σ H' fun σ2 H2 => tb { D with nx := N, ct := N, bk := D.nx } σ2 H2) := by
  refine ⟨fun i m σ H => m = xs.length - i ∧ i ≤ xs.length ∧ Pv i σ H, ⟨xs.length, by simp, Nat.zero_le _, h0⟩, ?_⟩
  rintro i m σ H ⟨rfl, hi, p⟩
  have q := hl i σ H hi p
  by_cases hlt : i < xs.length
  · refine .inr ⟨⟨xs, xs[i], q, by simp [hlt]⟩, Pv (i + 1), fun σ' H' p' => ⟨xs.length - (i + 1), by omega, rfl, hlt, p'⟩, fun x H' y => ?_⟩
    obtain ⟨e, y⟩ := y
    subst e
    exact hs i x σ _ (y xs q) p
  · have e : i = xs.length := by omega
    subst e
    exact .inl ⟨⟨xs, q, Nat.le_refl _⟩, hd σ H p⟩
theorem for_tup {K : PySem.W.Frag} {a : Addr} {xs : List V} {g : TG} {tb : TS} {D : Ends} {σ : St} {H : Hp} (Pv : Nat → St → Hp → Prop) (h0 : Pv 0 σ H) (hl : ∀ i σ H, i ≤ xs.length → Pv i σ H → SqT K H a xs)
    (hs : ∀ i x σ H, xs[i]? = some x → Pv i σ H → g x σ H fun σ2 H2 => tb { D with nx := Pv (i + 1), ct := Pv (i + 1), bk := D.nx } σ2 H2) (hd : ∀ σ H, Pv xs.length σ H → D.nx σ H) :
    ∃ W : Nat → Nat → St → Hp → Prop, (∃ m, W 0 m σ H) ∧ ∀ i m σ H, W i m σ H →
      ((Itt K a).stop i H ∧ D.nx σ H) ∨ ((Itt K a).go i H ∧ ∃ N : St → Hp → Prop, (∀ σ' H', N σ' H' → ∃ m', m' < m ∧ W (i + 1) m' σ' H') ∧ ∀ x H', (Itt K a).yld i H x H' → g x σ H' fun σ2 H2 => tb { D with nx := N, ct := N, bk := D.nx } σ2 H2) := by
  refine ⟨fun i m σ H => m = xs.length - i ∧ i ≤ xs.length ∧ Pv i σ H, ⟨xs.length, by simp, Nat.zero_le _, h0⟩, ?_⟩
  rintro i m σ H ⟨rfl, hi, p⟩
  have q := hl i σ H hi p
  by_cases hlt : i < xs.length
  · refine .inr ⟨⟨xs, xs[i], q, by simp [hlt]⟩, Pv (i + 1), fun σ' H' p' => ⟨xs.length - (i + 1), by omega, rfl, hlt, p'⟩, fun x H' y => ?_⟩
    obtain ⟨e, y⟩ := y
    subst e
    exact hs i x σ _ (y xs q) p
  · have e : i = xs.length := by omega
    subst e
    exact .inl ⟨⟨xs, q, Nat.le_refl _⟩, hd σ H p⟩
theorem for_range {lo : Int} {n : Nat} {g : TG} {tb : TS} {D : Ends} {σ : St} {H : Hp} (Pv : Nat → St → Hp → Prop) (h0 : Pv 0 σ H)
    (hs : ∀ i σ H, i < n → Pv i σ H → g (.int (lo + i)) σ H fun σ2 H2 => tb { D with nx := Pv (i + 1), ct := Pv (i + 1), bk := D.nx } σ2 H2) (hd : ∀ σ H, Pv n σ H → D.nx σ H) :
    ∃ W : Nat → Nat → St → Hp → Prop, (∃ m, W 0 m σ H) ∧ ∀ i m σ H, W i m σ H →
      ((Itr lo n).stop i H ∧ D.nx σ H) ∨ ((Itr lo n).go i H ∧ ∃ N : St → Hp → Prop, (∀ σ' H', N σ' H' → ∃ m', m' < m ∧ W (i + 1) m' σ' H') ∧ ∀ x H', (Itr lo n).yld i H x H' → g x σ H' fun σ2 H2 => tb { D with nx := N, ct := N, bk := D.nx } σ2 H2) := by
  refine ⟨fun i m σ H => m = n - i ∧ i ≤ n ∧ Pv i σ H, ⟨n, by simp, Nat.zero_le _, h0⟩, ?_⟩
  rintro i m σ H ⟨rfl, hi, p⟩
  by_cases hlt : i < n
  · refine .inr ⟨hlt, Pv (i + 1), fun σ' H' p' => ⟨n - (i + 1), by omega, rfl, hlt, p'⟩, fun x H' y => ?_⟩
    obtain ⟨e, y⟩ := y
    subst e y
    exact hs i σ _ hlt p
  · have e : i = n := by omega
    subst e
    exact .inl ⟨Nat.le_refl _, hd σ H p⟩
/-- while, by a word and a measure of the state -/
theorem while_by {c : TT} {tb : TS} {D : Ends} {σ : St} {H : Hp} (Pv : St → Hp → Prop) (μ : St → Hp → Nat) (h0 : Pv σ H)
    (hs : ∀ σ H, Pv σ H → c σ H fun b H1 => if b = true then tb { D with nx := fun σ' H' => Pv σ' H' ∧ μ σ' H' < μ σ H, ct := fun σ' H' => Pv σ' H' ∧ μ σ' H' < μ σ H, bk := D.nx } σ H1 else D.nx σ H1)
    (mono : ∀ σ H Q Q', (∀ b H1, Q b H1 → Q' b H1) → c σ H Q → c σ H Q') : tWhile c tb D σ H := by
  refine ⟨fun m σ H => m = μ σ H ∧ Pv σ H, ⟨_, rfl, h0⟩, ?_⟩
  rintro m σ H ⟨rfl, p⟩
  refine mono σ H _ _ (fun b H1 q => ?_) (hs σ H p)
  cases b with
  | true => exact ⟨_, fun σ' H' ⟨p', l⟩ => ⟨_, l, rfl, p'⟩, q⟩
  | false => exact q
end L2

namespace L2
open PySem PySem.Spec PyProof.Rows

abbrev R2 := V → V → Hp → VK → Prop
/-- a two-place operation on values: f is binaryOp op, inplaceOp op or compareOp op -/
def OpR (X : Cx) (f : Value → Value → Sem Value) (r : R2) : Prop :=
  ∀ (pins : List (Addr × Obj)) (s : Shared) (σ : St) (H : Hp) (x y : V) (v u : Value) (Q : VK), Inv X pins σ H s → RelV x v → RelV y u → r x y H Q →
    wpAny (model X.prog X.w) X.A (f v u) (EP X pins σ Q) X.xe s
/-- a one-place operation -/
def UnR (X : Cx) (f : Value → Sem Value) (r : V → Hp → VK → Prop) : Prop :=
  ∀ (pins : List (Addr × Obj)) (s : Shared) (σ : St) (H : Hp) (x : V) (v : Value) (Q : VK), Inv X pins σ H s → RelV x v → r x H Q →
    wpAny (model X.prog X.w) X.A (f v) (EP X pins σ Q) X.xe s
/-- a call of a value that is known (a builtin, a type) with values -/
def CallR (X : Cx) (f : Value) (r : List V → Hp → VK → Prop) : Prop :=
  ∀ (pins : List (Addr × Obj)) (s : Shared) (σ : St) (H : Hp) (xs : List V) (us : List Value) (Q : VK), Inv X pins σ H s → Vals xs us → r xs H Q →
    wpAny (model X.prog X.w) X.A (call f us) (EP X pins σ Q) X.xe s
/-- a value's truth -/
def TruR (X : Cx) (r : V → Hp → (Bool → Hp → Prop) → Prop) : Prop :=
  ∀ (pins : List (Addr × Obj)) (s : Shared) (σ : St) (H : Hp) (x : V) (v : Value) (Q : Bool → Hp → Prop), Inv X pins σ H s → RelV x v → r x H Q →
    wpAny (model X.prog X.w) X.A (truthy v) (TP X pins σ Q) X.xe s

def tOp (r : R2) (ta tb : TE) : TE := fun σ H Q => ta σ H fun x H1 => tb σ H1 fun y H2 => r x y H2 Q
def tUn (r : V → Hp → VK → Prop) (ta : TE) : TE := fun σ H Q => ta σ H fun x H1 => r x H1 Q
/-- ints in, under C, and a value out -/
def rI (C : Int → Int → Prop) (g : Int → Int → V) : R2 := fun x y H Q => ∃ i j, x = .int i ∧ y = .int j ∧ C i j ∧ Q (g i j) H
def rI0 (g : Int → Int → V) : R2 := fun x y H Q => ∃ i j, x = .int i ∧ y = .int j ∧ Q (g i j) H
def rU (g : Int → V) : V → Hp → VK → Prop := fun x H Q => ∃ i, x = .int i ∧ Q (g i) H

section
variable {X : Cx} {a b c : Expr} {ta tb tc : TE} {pos : Pos}

theorem binT (ha : PE X a ta) (hb : PE X b tb) {pins : List (Addr × Obj)} {s : Shared} {σ : St} {H : Hp} {R : V → V → Hp → Prop} (I : Inv X pins σ H s)
    (h : ta σ H fun x H1 => tb σ H1 fun y H2 => R x y H2) {Q : Value → Shared → Prop} {f : Value → Value → Sem Value}
    (hf : ∀ v u s2 x y H2, Inv X pins σ H2 s2 → RelV x v → RelV y u → R x y H2 → wpAny (model X.prog X.w) X.A (f v u) Q X.xe s2) :
    wpAny (model X.prog X.w) X.A (eval a X.env) (fun v s₁ => wpAny (model X.prog X.w) X.A (eval b X.env) (fun u s₂ => wpAny (model X.prog X.w) X.A (f v u) Q X.xe s₂) X.xe s₁) X.xe s := by
  refine thn (ha pins s σ H _ I h) fun v s1 ⟨x, H1, I1, r1, q1⟩ => ?_
  refine thn (hb pins s1 σ H1 _ I1 q1) fun u s2 ⟨y, H2, I2, r2, q2⟩ => ?_
  exact hf v u s2 x y H2 I2 r1 r2 q2

theorem pe_op {op : Operator} {r : R2} (ho : OpR X (binaryOp op) r) (ha : PE X a ta) (hb : PE X b tb) : PE X (.BinOp a op b pos) (tOp r ta tb) := by
  intro pins s σ H Q I h
  exact wpAny_BinOp (binT ha hb I h fun v u s2 x y H2 I2 rx ry q => ho pins s2 σ H2 x y v u Q I2 rx ry q)
theorem pe_un {op : UnaryOp} {r : V → Hp → VK → Prop} (ho : UnR X (unaryOp op) r) (ha : PE X a ta) : PE X (.UnaryOp op a pos) (tUn r ta) := by
  intro pins s σ H Q I h
  exact UnaryOp_ (thn (ha pins s σ H _ I h) fun v s1 ⟨x, H1, I1, r1, q1⟩ => ho pins s1 σ H1 x v Q I1 r1 q1)
/-- a op= e at a name: the name's slot i -/
theorem augR {op : Operator} {r : R2} (ho : OpR X (inplaceOp op) r) {pins : List (Addr × Obj)} {s : Shared} {σ : St} {H : Hp} {x y : V} {v u : Value} {Q : VK} (I : Inv X pins σ H s)
    (rx : RelV x v) (ry : RelV y u) (q : r x y H Q) : wpAny (model X.prog X.w) X.A (inplaceOp op v u) (EP X pins σ Q) X.xe s := ho pins s σ H x y v u Q I rx ry q

/-! ### ints -/
theorem opI {f : Value → Value → Sem Value} {C : Int → Int → Prop} {g : Int → Int → Int}
    (rule : ∀ (i j : Int) (t u : Tok) (s : Shared) (Q : Value → Shared → Prop) (E : Value → Shared → Prop), C i j → Q (.int (g i j) s.toks) { s with toks := s.toks + 1 } → wpAny (model X.prog X.w) X.A (f (.int i t) (.int j u)) Q E s) :
    OpR X f (rI C fun i j => .int (g i j)) := by
  intro pins s σ H x y v u Q I rx ry h
  obtain ⟨i, j, rfl, rfl, hc, q⟩ := h
  obtain ⟨t, rfl⟩ := rx
  obtain ⟨t', rfl⟩ := ry
  exact rule i j t t' s _ _ hc ⟨.int (g i j), H, I.tok _, ⟨_, rfl⟩, q⟩
theorem opI0 {f : Value → Value → Sem Value} {g : Int → Int → Int}
    (rule : ∀ (i j : Int) (t u : Tok) (s : Shared) (Q : Value → Shared → Prop) (E : Value → Shared → Prop), Q (.int (g i j) s.toks) { s with toks := s.toks + 1 } → wpAny (model X.prog X.w) X.A (f (.int i t) (.int j u)) Q E s) :
    OpR X f (rI0 fun i j => .int (g i j)) := by
  intro pins s σ H x y v u Q I rx ry h
  obtain ⟨i, j, rfl, rfl, q⟩ := h
  obtain ⟨t, rfl⟩ := rx
  obtain ⟨t', rfl⟩ := ry
  exact rule i j t t' s _ _ ⟨.int (g i j), H, I.tok _, ⟨_, rfl⟩, q⟩
theorem opB0 {f : Value → Value → Sem Value} {g : Int → Int → Bool}
    (rule : ∀ (i j : Int) (t u : Tok) (s : Shared) (Q : Value → Shared → Prop) (E : Value → Shared → Prop), Q (.bool (g i j)) s → wpAny (model X.prog X.w) X.A (f (.int i t) (.int j u)) Q E s) :
    OpR X f (rI0 fun i j => .bl (g i j)) := by
  intro pins s σ H x y v u Q I rx ry h
  obtain ⟨i, j, rfl, rfl, q⟩ := h
  obtain ⟨t, rfl⟩ := rx
  obtain ⟨t', rfl⟩ := ry
  exact rule i j t t' s _ _ ⟨.bl (g i j), H, I, rfl, q⟩

def CDiv (i j : Int) : Prop := 0 < j ∧ j < 1073741824
def CDivN (i j : Int) : Prop := j ≠ 0 ∧ j.natAbs < 1073741824
def CPow (i j : Int) : Prop := 0 ≤ j ∧ j ≤ 1000000 ∧ i.natAbs < 2 ^ 64
def CMul (i j : Int) : Prop := (-(2 ^ 64) < i ∧ i < 2 ^ 64) ∨ (-(2 ^ 64) < j ∧ j < 2 ^ 64)
theorem CMul.ok {i j : Int} (h : CMul i j) : IntMulOk i j := by
  rcases h with ⟨h1, h2⟩ | ⟨h1, h2⟩
  · exact .of_left (intBits_le_64 h1 h2)
  · exact .of_right (intBits_le_64 h1 h2)
theorem two_pow_nn (k : Nat) : (0 : Int) ≤ 2 ^ k := by
  rw [two_pow_cast]
  exact Int.natCast_nonneg _

theorem op_add : OpR X (binaryOp .Add) (rI0 fun i j => .int (i + j)) := opI0 fun _ _ _ _ _ _ _ q => add_int q
theorem op_sub : OpR X (binaryOp .Sub) (rI0 fun i j => .int (i - j)) := opI0 fun _ _ _ _ _ _ _ q => sub_int q
theorem op_mul : OpR X (binaryOp .Mult) (rI CMul fun i j => .int (i * j)) := opI fun _ _ _ _ _ _ _ hc q => mul_int q hc.ok
/-- // by a positive divisor -/
theorem op_fdiv : OpR X (binaryOp .FloorDiv) (rI CDiv fun i j => .int (i / j)) := opI fun i j _ _ _ _ _ hc q => by
  have h1 : (0 : Int) < j := hc.1
  have h2 : j < 1073741824 := hc.2
  exact floordiv_int (by omega) (by rw [Int.fdiv_eq_ediv_of_nonneg i (by omega)]; exact q) (.inl (PyProof.noPylong_small (by omega)))
theorem op_fdivN : OpR X (binaryOp .FloorDiv) (rI CDivN fun i j => .int (i.fdiv j)) := opI fun _ _ _ _ _ _ _ hc q => floordiv_int hc.1 q (.inl (PyProof.noPylong_small hc.2))
/-- % by a positive divisor of any size -/
theorem op_mod : OpR X (binaryOp .Mod) (rI (fun _ j => 0 < j) fun i j => .int (i % j)) := opI fun i j _ _ _ _ _ hc q => by
  have h1 : (0 : Int) < j := hc
  exact mod_int' (by omega) (by rw [Int.fmod_eq_emod_of_nonneg i (by omega)]; exact q)
theorem op_modN : OpR X (binaryOp .Mod) (rI (fun _ j => j ≠ 0) fun i j => .int (i.fmod j)) := opI fun _ _ _ _ _ _ _ hc q => mod_int' hc q
theorem op_pow : OpR X (binaryOp .Pow) (rI CPow fun i j => .int (i ^ j.toNat)) := opI fun _ _ _ _ _ _ _ hc q => pow_int_small hc.1 hc.2.1 hc.2.2 q
theorem op_shl : OpR X (binaryOp .LShift) (rI CPow fun i j => .int (i * 2 ^ j.toNat)) := opI fun _ _ _ _ _ _ _ hc q => lshift_int_small hc.1 hc.2.1 hc.2.2 q
theorem op_shr : OpR X (binaryOp .RShift) (rI (fun _ j => 0 ≤ j) fun i j => .int (i / 2 ^ j.toNat)) := opI fun i j _ _ _ _ _ hc q =>
  rshift_int hc (by rw [Int.fdiv_eq_ediv_of_nonneg i (two_pow_nn _)]; exact q)
theorem op_and : OpR X (binaryOp .BitAnd) (rI0 fun i j => .int (Builtin.bitAnd i j)) := opI0 fun _ _ _ _ _ _ _ q => and_int q
theorem op_or : OpR X (binaryOp .BitOr) (rI0 fun i j => .int (Builtin.bitOr i j)) := opI0 fun _ _ _ _ _ _ _ q => or_int q
theorem op_xor : OpR X (binaryOp .BitXor) (rI0 fun i j => .int (Builtin.bitXor i j)) := opI0 fun _ _ _ _ _ _ _ q => xor_int q

theorem iop_add : OpR X (inplaceOp .Add) (rI0 fun i j => .int (i + j)) := opI0 fun _ _ _ _ _ _ _ q => iadd_int q
theorem iop_sub : OpR X (inplaceOp .Sub) (rI0 fun i j => .int (i - j)) := opI0 fun _ _ _ _ _ _ _ q => isub_int q
theorem iop_mul : OpR X (inplaceOp .Mult) (rI CMul fun i j => .int (i * j)) := opI fun _ _ _ _ _ _ _ hc q => imul_int q hc.ok
theorem iop_fdiv : OpR X (inplaceOp .FloorDiv) (rI CDiv fun i j => .int (i / j)) := opI fun i j _ _ _ _ _ hc q => by
  have h1 : (0 : Int) < j := hc.1
  have h2 : j < 1073741824 := hc.2
  exact ifloordiv_int (by omega) (by rw [Int.fdiv_eq_ediv_of_nonneg i (by omega)]; exact q) (.inl (PyProof.noPylong_small (by omega)))
theorem iop_mod : OpR X (inplaceOp .Mod) (rI (fun _ j => 0 < j) fun i j => .int (i % j)) := opI fun i j _ _ _ _ _ hc q => by
  have h1 : (0 : Int) < j := hc
  exact imod_int (by omega) (by rw [Int.fmod_eq_emod_of_nonneg i (by omega)]; exact q)
theorem iop_shl : OpR X (inplaceOp .LShift) (rI CPow fun i j => .int (i * 2 ^ j.toNat)) := opI fun _ _ _ _ _ _ _ hc q => ilshift_int_small hc.1 hc.2.1 hc.2.2 q
theorem iop_shr : OpR X (inplaceOp .RShift) (rI (fun _ j => 0 ≤ j) fun i j => .int (i / 2 ^ j.toNat)) := opI fun i j _ _ _ _ _ hc q =>
  irshift_int hc (by rw [Int.fdiv_eq_ediv_of_nonneg i (two_pow_nn _)]; exact q)
theorem iop_and : OpR X (inplaceOp .BitAnd) (rI0 fun i j => .int (Builtin.bitAnd i j)) := opI0 fun _ _ _ _ _ _ _ q => iand_int q
theorem iop_or : OpR X (inplaceOp .BitOr) (rI0 fun i j => .int (Builtin.bitOr i j)) := opI0 fun _ _ _ _ _ _ _ q => ior_int q
theorem iop_xor : OpR X (inplaceOp .BitXor) (rI0 fun i j => .int (Builtin.bitXor i j)) := opI0 fun _ _ _ _ _ _ _ q => ixor_int q

theorem unI {f : Value → Sem Value} {g : Int → Int}
    (rule : ∀ (i : Int) (t : Tok) (s : Shared) (Q : Value → Shared → Prop) (E : Value → Shared → Prop), Q (.int (g i) s.toks) { s with toks := s.toks + 1 } → wpAny (model X.prog X.w) X.A (f (.int i t)) Q E s) :
    UnR X f (rU fun i => .int (g i)) := by
  intro pins s σ H x v Q I rx h
  obtain ⟨i, rfl, q⟩ := h
  obtain ⟨t, rfl⟩ := rx
  exact rule i t s _ _ ⟨.int (g i), H, I.tok _, ⟨_, rfl⟩, q⟩
theorem un_neg : UnR X (unaryOp .USub) (rU fun i => .int (-i)) := unI fun _ _ _ _ _ q => neg_int q
theorem un_inv : UnR X (unaryOp .Invert) (rU fun i => .int (Builtin.bitNot i)) := unI fun _ _ _ _ _ q => invert_int q

/-! ### bools among ints: n += (a < b) -/
theorem op_add_ib : OpR X (binaryOp .Add) (fun x y H Q => ∃ i k, x = .int i ∧ y = .bl k ∧ Q (.int (i + b2i k)) H) := by
  intro pins s σ H x y v u Q I rx ry h
  obtain ⟨i, k, rfl, rfl, q⟩ := h
  obtain ⟨t, rfl⟩ := rx
  cases ry
  exact add_int_bool ⟨.int (i + b2i k), H, I.tok _, ⟨_, rfl⟩, q⟩
end

/-! ### comparisons -/
/-- the scalars that == tells apart as data does -/
def scal : V → V → Bool
  | .non, .non => true | .non, .int _ => true | .int _, .non => true | .non, .bl _ => true | .bl _, .non => true | .non, .str _ => true | .str _, .non => true
  | .int _, .int _ => true | .bl _, .bl _ => true | .str _, .str _ => true | .byt _, .byt _ => true
  | .int _, .str _ => true | .str _, .int _ => true | .bl _, .str _ => true | .str _, .bl _ => true
  | _, _ => false
def rEq : R2 := fun x y H Q => scal x y = true ∧ Q (.bl (decide (x = y))) H
def rNe : R2 := fun x y H Q => scal x y = true ∧ Q (.bl (!decide (x = y))) H

theorem dec_int {i j : Int} : decide (V.int i = V.int j) = (i == j) := by
  rw [Bool.eq_iff_iff]
  simp
theorem dec_bl {i j : Bool} : decide (V.bl i = V.bl j) = (i == j) := by
  rw [Bool.eq_iff_iff]
  simp
theorem dec_str {i j : Str} : decide (V.str i = V.str j) = (i == j) := by
  rw [Bool.eq_iff_iff]
  simp
theorem dec_byt {i j : Array UInt8} : decide (V.byt i = V.byt j) = (i.toList == j.toList) := by
  rw [Bool.eq_iff_iff]
  cases i
  cases j
  simp

section
variable {X : Cx} {a b c : Expr} {ta tb tc : TE} {pos : Pos}
theorem fin_bl {pins : List (Addr × Obj)} {σ : St} {H : Hp} {s : Shared} {Q : VK} {k k' : Bool} (I : Inv X pins σ H s) (q : Q (.bl k) H) (e : k = k') : EP X pins σ Q (.bool k') s := by
  subst e
  exact ⟨.bl k, H, I, rfl, q⟩
theorem op_eq : OpR X (compareOp .Eq) rEq := by
  intro pins s σ H x y v u Q I rx ry h
  obtain ⟨hs, q⟩ := h
  cases x with
  | non =>
    cases rx
    cases y with
    | non => cases ry; exact PySem.EqNone.eq_none_none (fin_bl I q (by simp))
    | bl j => cases ry; exact PySem.EqNone.eq_none_bool (fin_bl I q (by simp))
    | int j => obtain ⟨t', rfl⟩ := ry; exact PySem.EqNone.eq_none_int (fin_bl I q (by simp))
    | str j => obtain ⟨t', rfl⟩ := ry; exact PySem.EqNone.eq_none_str (fin_bl I q (by simp))
    | _ => exact absurd (show false = true from hs) Bool.false_ne_true
  | bl i =>
    cases rx
    cases y with
    | non => cases ry; exact PySem.EqNone.eq_bool_none (fin_bl I q (by simp))
    | bl j => cases ry; exact eq_bool (fin_bl I q dec_bl)
    | str j => obtain ⟨t', rfl⟩ := ry; exact PySem.EqMixed.eq_bool_str (fin_bl I q (by simp))
    | _ => exact absurd (show false = true from hs) Bool.false_ne_true
  | int i =>
    obtain ⟨t, rfl⟩ := rx
    cases y with
    | non => cases ry; exact PySem.EqNone.eq_int_none (fin_bl I q (by simp))
    | int j => obtain ⟨t', rfl⟩ := ry; exact eq_int (fin_bl I q dec_int)
    | str j => obtain ⟨t', rfl⟩ := ry; exact PySem.EqMixed.eq_int_str (fin_bl I q (by simp))
    | _ => exact absurd (show false = true from hs) Bool.false_ne_true
  | str i =>
    obtain ⟨t, rfl⟩ := rx
    cases y with
    | non => cases ry; exact PySem.EqNone.eq_str_none (fin_bl I q (by simp))
    | bl j => cases ry; exact PySem.EqMixed.eq_str_bool (fin_bl I q (by simp))
    | int j => obtain ⟨t', rfl⟩ := ry; exact PySem.EqMixed.eq_str_int (fin_bl I q (by simp))
    | str j => obtain ⟨t', rfl⟩ := ry; exact eq_str (fin_bl I q dec_str)
    | _ => exact absurd (show false = true from hs) Bool.false_ne_true
  | byt i =>
    obtain ⟨t, rfl⟩ := rx
    cases y with
    | byt j => obtain ⟨t', rfl⟩ := ry; exact PySem.W.eq_bytes (fin_bl I q dec_byt)
    | _ => exact absurd (show false = true from hs) Bool.false_ne_true
  | _ => cases y <;> exact absurd (show false = true from hs) Bool.false_ne_true
theorem op_ne : OpR X (compareOp .NotEq) rNe := by
  intro pins s σ H x y v u Q I rx ry h
  obtain ⟨hs, q⟩ := h
  cases x with
  | non =>
    cases rx
    cases y with
    | non => cases ry; exact PySem.EqNone.ne_none_none (fin_bl I q (by simp))
    | bl j => cases ry; exact PySem.EqNone.ne_none_bool (fin_bl I q (by simp))
    | int j => obtain ⟨t', rfl⟩ := ry; exact PySem.EqNone.ne_none_int (fin_bl I q (by simp))
    | str j => obtain ⟨t', rfl⟩ := ry; exact PySem.EqNone.ne_none_str (fin_bl I q (by simp))
    | _ => exact absurd (show false = true from hs) Bool.false_ne_true
  | bl i =>
    cases rx
    cases y with
    | non => cases ry; exact PySem.EqNone.ne_bool_none (fin_bl I q (by simp))
    | bl j => cases ry; exact ne_bool (fin_bl I q (congrArg not dec_bl))
    | str j => obtain ⟨t', rfl⟩ := ry; exact PySem.EqMixed.ne_bool_str (fin_bl I q (by simp))
    | _ => exact absurd (show false = true from hs) Bool.false_ne_true
  | int i =>
    obtain ⟨t, rfl⟩ := rx
    cases y with
    | non => cases ry; exact PySem.EqNone.ne_int_none (fin_bl I q (by simp))
    | int j => obtain ⟨t', rfl⟩ := ry; exact ne_int (fin_bl I q (congrArg not dec_int))
    | str j => obtain ⟨t', rfl⟩ := ry; exact PySem.EqMixed.ne_int_str (fin_bl I q (by simp))
    | _ => exact absurd (show false = true from hs) Bool.false_ne_true
  | str i =>
    obtain ⟨t, rfl⟩ := rx
    cases y with
    | non => cases ry; exact PySem.EqNone.ne_str_none (fin_bl I q (by simp))
    | bl j => cases ry; exact PySem.EqMixed.ne_str_bool (fin_bl I q (by simp))
    | int j => obtain ⟨t', rfl⟩ := ry; exact PySem.EqMixed.ne_str_int (fin_bl I q (by simp))
    | str j => obtain ⟨t', rfl⟩ := ry; exact ne_str (fin_bl I q (congrArg not dec_str))
    | _ => exact absurd (show false = true from hs) Bool.false_ne_true
  | byt i =>
    obtain ⟨t, rfl⟩ := rx
    cases y with
    | byt j => obtain ⟨t', rfl⟩ := ry; exact PySem.W.ne_bytes (fin_bl I q (congrArg not dec_byt))
    | _ => exact absurd (show false = true from hs) Bool.false_ne_true
  | _ => cases y <;> exact absurd (show false = true from hs) Bool.false_ne_true

theorem op_lt : OpR X (compareOp .Lt) (rI0 fun i j => .bl (decide (i < j))) := opB0 fun _ _ _ _ _ _ _ q => lt_int q
theorem op_le : OpR X (compareOp .LtE) (rI0 fun i j => .bl (decide (i ≤ j))) := opB0 fun _ _ _ _ _ _ _ q => le_int q
theorem op_gt : OpR X (compareOp .Gt) (rI0 fun i j => .bl (decide (j < i))) := opB0 fun _ _ _ _ _ _ _ q => gt_int q
theorem op_ge : OpR X (compareOp .GtE) (rI0 fun i j => .bl (decide (j ≤ i))) := opB0 fun _ _ _ _ _ _ _ q => ge_int q
theorem op_lt_str : OpR X (compareOp .Lt) (fun x y H Q => ∃ i j, x = .str i ∧ y = .str j ∧ Q (.bl (decide (i.cps.toList < j.cps.toList))) H) := by
  intro pins s σ H x y v u Q I rx ry h
  obtain ⟨i, j, rfl, rfl, q⟩ := h
  obtain ⟨t, rfl⟩ := rx
  obtain ⟨t', rfl⟩ := ry
  exact lt_str (fin_bl I q rfl)
/-- the one string within the other -/
theorem op_in_str : OpR X (compareOp .In) (fun x y H Q => ∃ i j, x = .str i ∧ y = .str j ∧ Q (.bl (!(Builtin.Str.occurrences j i 0 j.length 1).isEmpty)) H) := by
  intro pins s σ H x y v u Q I rx ry h
  obtain ⟨i, j, rfl, rfl, q⟩ := h
  obtain ⟨t, rfl⟩ := rx
  obtain ⟨t', rfl⟩ := ry
  exact in_str (fin_bl I q rfl)

/-- is None, is not None: the right side a value none -/
theorem op_isN : OpR X (compareOp .Is) (fun x y H Q => y = .non ∧ Q (.bl (decide (x = .non))) H) := by
  intro pins s σ H x y v u Q I rx ry h
  obtain ⟨rfl, q⟩ := h
  cases ry
  refine is_none_gen (fin_bl I q ?_)
  cases x <;> first
    | (cases rx; rfl)
    | (obtain ⟨t, rfl⟩ := rx; rfl)
theorem op_notN : OpR X (compareOp .IsNot) (fun x y H Q => y = .non ∧ Q (.bl (!decide (x = .non))) H) := by
  intro pins s σ H x y v u Q I rx ry h
  obtain ⟨rfl, q⟩ := h
  cases ry
  refine isnot_none_gen (fin_bl I q ?_)
  cases x <;> first
    | (cases rx; rfl)
    | (obtain ⟨t, rfl⟩ := rx; rfl)

theorem op_notin_str : OpR X (compareOp .NotIn) (fun x y H Q => ∃ i j, x = .str i ∧ y = .str j ∧ Q (.bl (!(!(Builtin.Str.occurrences j i 0 j.length 1).isEmpty))) H) := by
  intro pins s σ H x y v u Q I rx ry h
  obtain ⟨i, j, rfl, rfl, q⟩ := h
  obtain ⟨t, rfl⟩ := rx
  obtain ⟨t', rfl⟩ := ry
  exact notIn_str (fin_bl I q rfl)
/-- is, is not of two objects that are tracked lists or instances -/
def isObj : HO → Bool
  | .lst _ => true
  | .ins _ _ _ => true
  | _ => false
theorem obj_there {pins : List (Addr × Obj)} {s : Shared} {σ : St} {H : Hp} {a : Addr} {o : HO} (I : Inv X pins σ H s) (h : H a = some o) (p : isObj o = true) : ∃ ob, s.heap.get? a = some ob ∧ ob.cls ≠ .type "tuple" := by
  cases o with
  | lst xs =>
    obtain ⟨_, its, n, _, e⟩ : xs.length ≤ sizeLine ∧ ∃ (its : List Value) (n : Nat), Vals xs its ∧ s.heap.get? a = some { cls := .type "list", data := .seq its.toArray n } := I.hok a _ h
    exact ⟨_, e, (by show Value.type "list" ≠ .type "tuple"; decide +kernel)⟩
  | ins C dx fs =>
    have x := I.hok a _ h
    obtain ⟨_, _, _, e, _⟩ := x
    exact ⟨_, e, (by show Value.ref C ≠ .type "tuple"; exact fun z => by cases z)⟩
  | _ => exact absurd (show false = true from p) Bool.false_ne_true
theorem op_is_ref : OpR X (compareOp .Is) (fun x y H Q => ∃ a b oa ob, x = .ref a ∧ y = .ref b ∧ H a = some oa ∧ isObj oa = true ∧ H b = some ob ∧ isObj ob = true ∧ Q (.bl (decide (a = b))) H) := by
  intro pins s σ H x y v u Q I rx ry h
  obtain ⟨a, b, oa, ob, rfl, rfl, ha, pa, hb, pb, q⟩ := h
  cases rx
  cases ry
  obtain ⟨o1, e1, n1⟩ := obj_there I ha pa
  obtain ⟨o2, e2, _⟩ := obj_there I hb pb
  by_cases z : a = b
  · subst z
    exact wpAny_is_ref_self (fin_bl I q (by simp))
  · exact wpAny_is_ref_other z e1 e2 n1 (fin_bl I q (by simp [z]))
theorem op_isnot_ref : OpR X (compareOp .IsNot) (fun x y H Q => ∃ a b oa ob, x = .ref a ∧ y = .ref b ∧ H a = some oa ∧ isObj oa = true ∧ H b = some ob ∧ isObj ob = true ∧ Q (.bl (!decide (a = b))) H) := by
  intro pins s σ H x y v u Q I rx ry h
  obtain ⟨a, b, oa, ob, rfl, rfl, ha, pa, hb, pb, q⟩ := h
  cases rx
  cases ry
  obtain ⟨o1, e1, n1⟩ := obj_there I ha pa
  obtain ⟨o2, e2, _⟩ := obj_there I hb pb
  by_cases z : a = b
  · subst z
    exact wpAny_isNot_ref_self (fin_bl I q (by simp))
  · exact wpAny_isNot_ref_other z e1 e2 n1 (fin_bl I q (by simp [z]))

/-- two rules for one operation: by cases -/
theorem OpR.or {f : Value → Value → Sem Value} {r r' : R2} (h : OpR X f r) (h' : OpR X f r') : OpR X f (fun x y H Q => r x y H Q ∨ r' x y H Q) := by
  intro pins s σ H x y v u Q I rx ry q
  rcases q with q | q
  · exact h pins s σ H x y v u Q I rx ry q
  · exact h' pins s σ H x y v u Q I rx ry q

theorem nomark (b : Expr) {op : CmpOp} (h : op ≠ .In := by decide) (h2 : op ≠ .NotIn := by decide) : behindInMarks op b = false := by
  have e1 : (op == CmpOp.In) = false := by cases op <;> first | rfl | exact absurd rfl h
  have e2 : (op == CmpOp.NotIn) = false := by cases op <;> first | rfl | exact absurd rfl h2
  cases b <;> simp [behindInMarks, e1, e2]
/-- a comparison as a value; hm: nomark b, or (for in, not in) by with_unfolding_all rfl -/
theorem pe_cmpR {op : CmpOp} {r : R2} (ho : OpR X (compareOp op) r) (ha : PE X a ta) (hb : PE X b tb) (hm : behindInMarks op b = false) : PE X (.Compare a [op] [b] pos) (tOp r ta tb) := by
  intro pins s σ H Q I h
  exact wpAny_Compare1 (binT ha hb I h fun v u s2 x y H2 I2 rx ry q => ho pins s2 σ H2 x y v u Q I2 rx ry q) hm
/-- a reading of a value as a test -/
def tTest (t : TE) : TT := fun σ H Q => t σ H fun x H' => ∃ k, x = .bl k ∧ Q k H'
theorem pt_cmpR {op : CmpOp} {r : R2} (ho : OpR X (compareOp op) r) (ha : PE X a ta) (hb : PE X b tb) (hm : behindInMarks op b = false) : PT X (.Compare a [op] [b] pos) (tTest (tOp r ta tb)) := by
  intro pins s σ H Q I h
  refine wpAny_isTrue_Compare1 (thn (ha pins s σ H _ I h) fun v s1 ⟨x, H1, I1, r1, q1⟩ => thn (hb pins s1 σ H1 _ I1 q1) fun u s2 ⟨y, H2, I2, r2, q2⟩ =>
    thn (ho pins s2 σ H2 x y v u _ I2 r1 r2 q2) fun c s3 ⟨z, H3, I3, r3, k, e, q3⟩ => ?_) hm
  subst e
  cases r3
  exact wpAny_truthy_bool ⟨H3, I3, q3⟩
/-- a op1 b op2 c -/
def tChain (r r' : R2) (ta tb tc : TE) : TE := fun σ H Q => ta σ H fun x H1 => tb σ H1 fun y H2 => r x y H2 fun z H3 => ∃ k, z = .bl k ∧
  (if k = true then tc σ H3 fun w' H4 => r' y w' H4 Q else Q (.bl false) H3)
theorem pe_chain {op op' : CmpOp} {r r' : R2} (ho : OpR X (compareOp op) r) (ho' : OpR X (compareOp op') r') (ha : PE X a ta) (hb : PE X b tb) (hc : PE X c tc)
    (hm : lastMarks [op, op'] [b, c] = false := by with_unfolding_all rfl) : PE X (.Compare a [op, op'] [b, c] pos) (tChain r r' ta tb tc) := by
  intro pins s σ H Q I h
  refine Compare_chain (thn (ha pins s σ H _ I h) fun v s1 ⟨x, H1, I1, r1, q1⟩ => chain_link (thn (hb pins s1 σ H1 _ I1 q1) fun u s2 ⟨y, H2, I2, r2, q2⟩ =>
    thn (ho pins s2 σ H2 x y v u _ I2 r1 r2 q2) fun d s3 ⟨z, H3, I3, r3, k, e, q3⟩ => ?_)) hm
  subst e
  cases r3
  refine wpAny_truthy_bool ?_
  cases k with
  | false => exact ite_ff ⟨.bl false, H3, I3, rfl, q3⟩
  | true => exact ite_tt (chain_last (thn (hc pins s3 σ H3 _ I3 q3) fun w' s4 ⟨z', H4, I4, r4, q4⟩ => ho' pins s4 σ H4 y z' u w' Q I4 r2 r4 q4))
theorem pt_chain {op op' : CmpOp} {r r' : R2} (ho : OpR X (compareOp op) r) (ho' : OpR X (compareOp op') r') (ha : PE X a ta) (hb : PE X b tb) (hc : PE X c tc)
    (hm : lastMarks [op, op'] [b, c] = false := by with_unfolding_all rfl) : PT X (.Compare a [op, op'] [b, c] pos) (tTest (tChain r r' ta tb tc)) := by
  intro pins s σ H Q I h
  refine isTrue_chain (thn (ha pins s σ H _ I h) fun v s1 ⟨x, H1, I1, r1, q1⟩ => test_link (thn (hb pins s1 σ H1 _ I1 q1) fun u s2 ⟨y, H2, I2, r2, q2⟩ =>
    thn (ho pins s2 σ H2 x y v u _ I2 r1 r2 q2) fun d s3 ⟨z, H3, I3, r3, k, e, q3⟩ => ?_)) hm
  subst e
  cases r3
  refine wpAny_truthy_bool ?_
  cases k with
  | false =>
    obtain ⟨k', e', q'⟩ := q3
    cases e'
    exact ite_ff ⟨H3, I3, q'⟩
  | true =>
    refine ite_tt (test_last (thn (hc pins s3 σ H3 _ I3 q3) fun w' s4 ⟨z', H4, I4, r4, q4⟩ => thn (ho' pins s4 σ H4 y z' u w' _ I4 r2 r4 q4) fun d' s5 ⟨z2, H5, I5, r5, k2, e2, q5⟩ => ?_))
    subst e2
    cases r5
    exact wpAny_truthy_bool ⟨H5, I5, q5⟩

/-! ### truth -/
/-- a value's truth by the abstract heap -/
def TruV (K : PySem.W.Frag) (x : V) (H : Hp) (k : Bool) : Prop :=
  match x with
  | .non => k = false
  | .bl b => k = b
  | .int i => k = (i != 0)
  | .str y => y.length ≤ sizeLine ∧ k = ((y.length : Int) != 0)
  | .byt y => y.size ≤ sizeLine ∧ k = ((y.size : Int) != 0)
  | .ref p => (∃ xs, SqL K H p xs ∧ k = !xs.isEmpty) ∨ (∃ xs, SqT K H p xs ∧ k = !xs.isEmpty) ∨ ∃ kvs, H p = some (.dK kvs) ∧ k = !kvs.isEmpty
  | _ => False
theorem isEmpty_kv {κ : Type} {kvs : List (κ × V)} {vs : List (κ × Value)} (r : KV kvs vs) : (!vs.isEmpty) = !kvs.isEmpty := by
  cases r <;> rfl
theorem isEmpty_of {xs : List V} {its : List Value} (r : Vals xs its) : (!its.toArray.isEmpty) = !xs.isEmpty := by
  cases r <;> simp
theorem line63 : (sizeLine : Nat) < 2 ^ 63 := by rw [sizeLine_eq]; decide
theorem tru_ok : TruR X (fun x H Q => ∃ k, TruV X.K x H k ∧ Q k H) := by
  intro pins s σ H x v Q I rx h
  obtain ⟨k, e, q⟩ := h
  have hl := line63
  have hs : sizeLine = 16777216 := sizeLine_eq
  cases x with
  | non =>
    cases rx
    have e' : k = false := e
    subst e'
    exact truthy_none ⟨H, I, q⟩
  | bl b =>
    cases rx
    have e' : k = b := e
    subst e'
    exact wpAny_truthy_bool ⟨H, I, q⟩
  | int i =>
    obtain ⟨t, rfl⟩ := rx
    have e' : k = (i != 0) := e
    subst e'
    exact PySem.P.truthy_int ⟨H, I, q⟩
  | str y =>
    obtain ⟨t, rfl⟩ := rx
    obtain ⟨hy, e'⟩ : y.length ≤ sizeLine ∧ k = ((y.length : Int) != 0) := e
    subst e'
    exact PySem.P.truthy_str (by omega) ⟨H, I.tok _, q⟩
  | byt y =>
    obtain ⟨t, rfl⟩ := rx
    obtain ⟨hy, e'⟩ : y.size ≤ sizeLine ∧ k = ((y.size : Int) != 0) := e
    subst e'
    exact PySem.W.truthy_bytes (by omega) ⟨H, I.tok _, q⟩
  | ref p =>
    cases rx
    have e' : (∃ xs, SqL X.K H p xs ∧ k = !xs.isEmpty) ∨ (∃ xs, SqT X.K H p xs ∧ k = !xs.isEmpty) ∨ ∃ kvs, H p = some (.dK kvs) ∧ k = !kvs.isEmpty := e
    rcases e' with ⟨xs, hx, e'⟩ | ⟨xs, hx, e'⟩ | ⟨kvs, hx, e'⟩
    · subst e'
      obtain ⟨its, r, pl, hz⟩ := I.list hx
      have hlen := r.length
      exact wpAny_truthy_list pl.isList (by simp only [List.size_toArray]; omega) ⟨H, I.tok _, by rw [isEmpty_of r]; exact q⟩
    · subst e'
      obtain ⟨its, r, pl, hz⟩ := I.tuple hx
      have hlen := r.length
      exact truthy_tuple pl (by simp only [List.size_toArray]; omega) ⟨H, I.tok _, by rw [isEmpty_of r]; exact q⟩
    · subst e'
      obtain ⟨hz, hS, vs, r, m⟩ : kvs.length ≤ sizeLine ∧ (p == sysModules) = false ∧ ∃ vs, KV kvs vs ∧ s.heap.DictOf (mixKind X.prog X.w) p vs := I.hok p _ hx
      have hlen : kvs.length = vs.length := Paired.length r
      exact wpAny_truthy_dict hS m (by omega) ⟨H, I.tok _, by rw [isEmpty_kv r]; exact q⟩
  | _ => exact (show False from e).elim
/-- any expression whose test is its value's truth (a name, a call, a subscript, a field ..: he by fun _ => rfl) -/
theorem pt_truth (ha : PE X a ta) (he : ∀ whole, isTrue a X.env whole = (do let v ← whole; standAt a.pos; holding [v] (truthy v))) :
    PT X a (fun σ H Q => ta σ H fun x H' => ∃ k, TruV X.K x H' k ∧ Q k H') := by
  intro pins s σ H Q I h
  exact isTrue_plain (thn (ha pins s σ H _ I h) fun v s1 ⟨x, H1, I1, r1, q1⟩ => tru_ok pins s1 σ H1 x v Q I1 r1 q1) (he _)

/-! ### strs and bytes -/
theorem pe_byt {x : List UInt8} {k : Nat} : PE X (.Constant (.bytes x) k pos) (fun _ H Q => Q (.byt x.toArray) H) := fun _ _ _ H _ I h => PySem.W.Constant_bytes ⟨.byt x.toArray, H, I.tok _, ⟨_, rfl⟩, h⟩
theorem op_add_str : OpR X (binaryOp .Add) (fun x y H Q => ∃ i j, x = .str i ∧ y = .str j ∧ i.length + j.length ≤ sizeLine ∧ Q (.str (i ++ j)) H) := by
  intro pins s σ H x y v u Q I rx ry h
  obtain ⟨i, j, rfl, rfl, hz, q⟩ := h
  obtain ⟨t, rfl⟩ := rx
  obtain ⟨t', rfl⟩ := ry
  exact add_str (fun t' tk => ⟨.str (i ++ j), H, I.tok _, ⟨_, rfl⟩, q⟩) hz
theorem iop_add_str : OpR X (inplaceOp .Add) (fun x y H Q => ∃ i j, x = .str i ∧ y = .str j ∧ i.length + j.length ≤ sizeLine ∧ Q (.str (i ++ j)) H) := by
  intro pins s σ H x y v u Q I rx ry h
  obtain ⟨i, j, rfl, rfl, hz, q⟩ := h
  obtain ⟨t, rfl⟩ := rx
  obtain ⟨t', rfl⟩ := ry
  exact iadd_str (fun t' tk => ⟨.str (i ++ j), H, I.tok _, ⟨_, rfl⟩, q⟩) hz
theorem op_add_byt : OpR X (binaryOp .Add) (fun x y H Q => ∃ i j, x = .byt i ∧ y = .byt j ∧ i.size + j.size ≤ 16777216 ∧ Q (.byt (i ++ j)) H) := by
  intro pins s σ H x y v u Q I rx ry h
  obtain ⟨i, j, rfl, rfl, hz, q⟩ := h
  obtain ⟨t, rfl⟩ := rx
  obtain ⟨t', rfl⟩ := ry
  exact PySem.W.KBy.add_bytes hz (fun t' tk => ⟨.byt (i ++ j), H, I.tok _, ⟨_, rfl⟩, q⟩)

def PlainIxT (b : Expr) : Prop := ∀ o i, subscripted b false o i = operate [o, i] (getItem o i)
/-- s[i], 0 ≤ i < len -/
theorem pe_item_str (ha : PE X a ta) (hb : PE X b tb) (hs : PlainIxT b) :
    PE X (.Subscript a b pos) (tOp (fun x y H Q => ∃ z i c, x = .str z ∧ y = .int i ∧ 0 ≤ i ∧ i < 2 ^ 63 ∧ i < z.length ∧ z.cps[i.toNat]? = some c ∧ Q (.str ⟨#[c]⟩) H) ta tb) := by
  intro pins s σ H Q I h
  refine Subscript_ (binT ha hb I h fun v u s2 x y H2 I2 rx ry q => ?_)
  obtain ⟨z, i, c, rfl, rfl, h0, h63, h1, hc, q⟩ := q
  obtain ⟨t, rfl⟩ := rx
  obtain ⟨t', rfl⟩ := ry
  have e : seqIndex? i z.length = some i.toNat := PySem.StrLaws.seqIndex_nonneg h0 h1
  exact tail_any (typeIs_str s2 z t) slot_str_getitem.lookup (getItem_str (c := c) (by
    have e1 : decide (i < -(2 ^ 63 : Int)) = false := decide_eq_false (by omega)
    have e2 : decide (i ≥ 2 ^ 63) = false := decide_eq_false (by omega)
    rw [e1, e2] <;> rfl) (by rw [e]; exact hc) ⟨.str ⟨#[c]⟩, H2, I2.tok _, ⟨_, rfl⟩, q⟩) (hs _ _)
/-- b[i], 0 ≤ i < len -/
theorem pe_item_byt (ha : PE X a ta) (hb : PE X b tb) (hs : PlainIxT b) :
    PE X (.Subscript a b pos) (tOp (fun x y H Q => ∃ (z : List UInt8) (i : Int), x = .byt z.toArray ∧ y = .int i ∧ z.length ≤ sizeLine ∧ 0 ≤ i ∧ i < z.length ∧ Q (.int ((z.getD i.toNat 0).toNat : Nat)) H) ta tb) := by
  intro pins s σ H Q I h
  refine Subscript_ (binT ha hb I h fun v u s2 x y H2 I2 rx ry q => ?_)
  obtain ⟨z, i, rfl, rfl, hz, h0, h1, q⟩ := q
  obtain ⟨t, rfl⟩ := rx
  obtain ⟨t', rfl⟩ := ry
  have hl : sizeLine = 16777216 := sizeLine_eq
  exact tail_any (PySem.W.typeIs_bytes s2 z.toArray t) PySem.W.FB.slot_bytes_getitem.lookup (PySem.W.getItem_bytes (by omega) h0 h1 ⟨.int ((z.getD i.toNat 0).toNat : Nat), H2, I2.tok _, ⟨_, rfl⟩, q⟩) (hs _ _)

/-! ### scalar builtins, by CallR -/
theorem vals1 {x : V} {us : List Value} (r : Vals [x] us) : ∃ u, us = [u] ∧ RelV x u := by
  cases r with
  | cons r1 r2 => cases r2; exact ⟨_, rfl, r1⟩
theorem vals2 {x y : V} {us : List Value} (r : Vals [x, y] us) : ∃ u w', us = [u, w'] ∧ RelV x u ∧ RelV y w' := by
  cases r with
  | cons r1 r2 =>
    cases r2 with
    | cons r3 r4 => cases r4; exact ⟨_, _, rfl, r1, r3⟩
theorem call_abs : CallR X (.builtin "abs") (fun xs H Q => ∃ i, xs = [.int i] ∧ Q (.int (if i < 0 then -i else i)) H) := by
  intro pins s σ H xs us Q I r h
  obtain ⟨i, rfl, q⟩ := h
  obtain ⟨u, rfl, t, rfl⟩ := vals1 r
  exact call_abs_int fun u tk => ⟨.int (if i < 0 then -i else i), H, I.tok _, ⟨_, rfl⟩, q⟩
theorem call_max2 (hc : X.calm = true) : CallR X (.builtin "max") (fun xs H Q => ∃ i j, xs = [.int i, .int j] ∧ Q (.int (if j > i then j else i)) H) := by
  intro pins s σ H xs us Q I r h
  obtain ⟨i, j, rfl, q⟩ := h
  obtain ⟨u, w', rfl, ⟨t, rfl⟩, ⟨t', rfl⟩⟩ := vals2 r
  refine max_two_ints (I.ok.hd hc) fun h' tk k => ⟨_, H, I.kept k, ?_, q⟩
  by_cases hj : j > i
  · rw [if_pos hj, if_pos hj]; exact ⟨_, rfl⟩
  · rw [if_neg hj, if_neg hj]; exact ⟨_, rfl⟩
theorem call_min2 (hc : X.calm = true) : CallR X (.builtin "min") (fun xs H Q => ∃ i j, xs = [.int i, .int j] ∧ Q (.int (if j < i then j else i)) H) := by
  intro pins s σ H xs us Q I r h
  obtain ⟨i, j, rfl, q⟩ := h
  obtain ⟨u, w', rfl, ⟨t, rfl⟩, ⟨t', rfl⟩⟩ := vals2 r
  refine min_two_ints (I.ok.hd hc) fun h' tk k => ⟨_, H, I.kept k, ?_, q⟩
  by_cases hj : j < i
  · rw [if_pos hj, if_pos hj]; exact ⟨_, rfl⟩
  · rw [if_neg hj, if_neg hj]; exact ⟨_, rfl⟩
theorem call_int1 : CallR X (.type "int") (fun xs H Q => (∃ i, xs = [.int i] ∧ Q (.int i) H) ∨ ∃ k, xs = [.bl k] ∧ Q (.int (if k then 1 else 0)) H) := by
  intro pins s σ H xs us Q I r h
  rcases h with ⟨i, rfl, q⟩ | ⟨k, rfl, q⟩
  · obtain ⟨u, rfl, t, rfl⟩ := vals1 r
    exact call_int_int ⟨.int i, H, I, ⟨_, rfl⟩, q⟩
  · obtain ⟨u, rfl, r1⟩ := vals1 r
    cases r1
    exact call_int_bool ⟨.int (if k then 1 else 0), H, I.tok _, ⟨_, rfl⟩, q⟩
theorem call_bool1 : CallR X (.type "bool") (fun xs H Q => (∃ i, xs = [.int i] ∧ Q (.bl (i != 0)) H) ∨ ∃ k, xs = [.bl k] ∧ Q (.bl k) H) := by
  intro pins s σ H xs us Q I r h
  rcases h with ⟨i, rfl, q⟩ | ⟨k, rfl, q⟩
  · obtain ⟨u, rfl, t, rfl⟩ := vals1 r
    exact call_bool_int ⟨.bl (i != 0), H, I, rfl, q⟩
  · obtain ⟨u, rfl, r1⟩ := vals1 r
    cases r1
    exact call_bool_bool ⟨.bl k, H, I, rfl, q⟩
theorem call_str_int : CallR X (.type "str") (fun xs H Q => ∃ i, xs = [.int i] ∧ i.natAbs.log2 < 1920 ∧ Q (.str (toString i)) H) := by
  intro pins s σ H xs us Q I r h
  obtain ⟨i, rfl, hz, q⟩ := h
  obtain ⟨u, rfl, t, rfl⟩ := vals1 r
  exact PySem.P.str_of_int hz ⟨.str _, H, I.tok _, ⟨_, rfl⟩, q⟩
theorem call_ord : CallR X (.builtin "ord") (fun xs H Q => ∃ x, xs = [.str x] ∧ x.length = 1 ∧ Q (.int (x.cps.getD 0 0 : Nat)) H) := by
  intro pins s σ H xs us Q I r h
  obtain ⟨x, rfl, hz, q⟩ := h
  obtain ⟨u, rfl, t, rfl⟩ := vals1 r
  exact ord_of_one hz ⟨.int _, H, I.tok _, ⟨_, rfl⟩, q⟩
theorem call_chr : CallR X (.builtin "chr") (fun xs H Q => ∃ i, xs = [.int i] ∧ 0 ≤ i ∧ i ≤ 1114111 ∧ Q (.str ⟨#[i.toNat]⟩) H) := by
  intro pins s σ H xs us Q I r h
  obtain ⟨i, rfl, h0, h1, q⟩ := h
  obtain ⟨u, rfl, t, rfl⟩ := vals1 r
  exact chr_of_range h0 h1 ⟨.str _, H, I.tok _, ⟨_, rfl⟩, q⟩
/-- len of a str, a bytes, a list, a tuple -/
def LenV (K : PySem.W.Frag) (x : V) (H : Hp) (n : Nat) : Prop :=
  match x with
  | .str y => y.length ≤ sizeLine ∧ n = y.length
  | .byt y => y.size ≤ sizeLine ∧ n = y.size
  | .ref p => (∃ xs, SqL K H p xs ∧ n = xs.length) ∨ ∃ xs, SqT K H p xs ∧ n = xs.length
  | _ => False
theorem call_len : CallR X (.builtin "len") (fun xs H Q => ∃ x n, xs = [x] ∧ LenV X.K x H n ∧ Q (.int n) H) := by
  intro pins s σ H xs us Q I r h
  obtain ⟨x, n, rfl, e, q⟩ := h
  obtain ⟨u, rfl, rx⟩ := vals1 r
  have hl := line63
  have hs : sizeLine = 16777216 := sizeLine_eq
  cases x with
  | str y =>
    obtain ⟨t, rfl⟩ := rx
    obtain ⟨hy, e'⟩ : y.length ≤ sizeLine ∧ n = y.length := e
    subst e'
    exact len_str (by omega) ⟨.int _, H, I.tok _, ⟨_, rfl⟩, q⟩
  | byt y =>
    obtain ⟨t, rfl⟩ := rx
    obtain ⟨hy, e'⟩ : y.size ≤ sizeLine ∧ n = y.size := e
    subst e'
    exact PySem.W.len_bytes (by omega) ⟨.int _, H, I.tok _, ⟨_, rfl⟩, q⟩
  | ref p =>
    cases rx
    have e' : (∃ xs, SqL X.K H p xs ∧ n = xs.length) ∨ ∃ xs, SqT X.K H p xs ∧ n = xs.length := e
    rcases e' with ⟨xs, hx, e'⟩ | ⟨xs, hx, e'⟩
    · subst e'
      obtain ⟨its, r', pl, hz⟩ := I.list hx
      have hlen := r'.length
      exact Calls.call_len_list pl.isList (by simp only [List.size_toArray]; omega) ⟨.int xs.length, H, I.tok _, ⟨_, by simp only [List.size_toArray]; rw [hlen]⟩, q⟩
    · subst e'
      obtain ⟨its, r', pl, hz⟩ := I.tuple hx
      have hlen := r'.length
      exact len_tuple pl (by simp only [List.size_toArray]; omega) ⟨.int xs.length, H, I.tok _, ⟨_, by simp only [List.size_toArray]; rw [hlen]⟩, q⟩
  | _ => exact (show False from e).elim
/-- divmod: a new tuple -/
theorem call_divmod : CallR X (.builtin "divmod") (fun xs H Q => ∃ i j, xs = [.int i, .int j] ∧ CDiv i j ∧ ∀ p, H p = none → Q (.ref p) (upd H p (.tup [.int (i / j), .int (i % j)]))) := by
  intro pins s σ H xs us Q I r h
  obtain ⟨i, j, rfl, ⟨h1, h2⟩, q⟩ := h
  obtain ⟨u, w', rfl, ⟨t, rfl⟩, ⟨t', rfl⟩⟩ := vals2 r
  refine divmod_int (by omega) ?_ (.inl (PyProof.noPylong_small (by omega)))
  rw [Int.fdiv_eq_ediv_of_nonneg i (by omega), Int.fmod_eq_emod_of_nonneg i (by omega)]
  have hn : H s.heap.objs.size = none := I.hok.fresh (Nat.le_refl _)
  refine ⟨.ref s.heap.objs.size, _, ?_, rfl, q _ hn⟩
  refine I.laid (fun b o e => Heap.get?_push_of_some _ e) (Nat.le_refl _) ⟨by simp only [List.length_cons, List.length_nil]; rw [sizeLine_eq]; decide, [.int (i / j) s.toks, .int (i % j) (s.toks + 1)], .cons ⟨_, rfl⟩ (.cons ⟨_, rfl⟩ .nil), ?_⟩
  exact ⟨_, Heap.get?_push_size s.heap rfl, rfl, 0, rfl⟩
end
end L2

namespace L2
open PySem PySem.Spec PyProof.Rows

/-! ### an instance, its attributes a map -/
structure ObjM (h : Heap) (x dx C : Addr) (mA : Str → Option Value) : Prop where
  obj : h.get? x = some (PySem.W.instObj C dx)
  ns : h.Ns1 dx mA
  ne : dx ≠ x

theorem lookIn_ns {h : Heap} {dx : Addr} {mA : Str → Option Value} (n : h.Ns1 dx mA) : ∃ od, h.get? dx = some od ∧ ∀ name, PySem.W.lookIn name od = some (mA name) := by
  obtain ⟨o, es, ep, ho, hd, hk, _, hm⟩ := n
  refine ⟨o, ho, fun name => ?_⟩
  have e := hm name
  unfold nsFind findBy at e
  rw [← Array.find?_toList] at e
  unfold PySem.W.lookIn
  rw [hd]
  dsimp only
  split
  · rename_i y q
    rw [q] at e
    exact congrArg some e
  · rename_i q
    rw [q] at e
    have a : es.toList.any (·.refKey) = false := by
      rw [List.any_eq_false]
      intro y hy
      obtain ⟨z, t, hkey⟩ := hk y (Array.mem_toList_iff.mp hy)
      simp [DictEntry.refKey, hkey]
    have a' : ¬ es.toList.any (·.refKey) = true := by rw [a]; exact Bool.false_ne_true
    rw [if_neg a']
    exact congrArg some e

theorem ObjM.look {h : Heap} {x dx C : Addr} {mA : Str → Option Value} (I : ObjM h x dx C mA) : ∃ od, PySem.W.InstAt h x (PySem.W.instObj C dx) C (some od) ∧ ∀ name, PySem.W.lookIn name od = some (mA name) :=
  let ⟨od, ho, hl⟩ := lookIn_ns I.ns
  ⟨od, ⟨I.obj, rfl, rfl, ho⟩, hl⟩

section
variable {prog : Program} {w : World} {A : Around} {E : Value → Shared → Prop} {s : Shared} {K : PySem.W.Frag} {x dx C f : Addr} {mA : Str → Option Value} {name : Str} {v : Value}

theorem get_map {expr : Bool} {Q : Value → Shared → Prop} (X : K.In s.heap) (I : ObjM s.heap x dx C mA) (hg : PySem.W.plainGet K C name = true) (hh : PySem.W.hasDictIn K C = true)
    (ha : PySem.W.findIn K (.ref C) name = some none) (hv : mA name = some v) (hv' : PySem.W.handedIn v = true) (h : Q v { s with toks := s.toks + 1 }) :
    wpAny (model prog w) A (getAttr (.ref x) name expr) Q E s := by
  obtain ⟨od, J, hl⟩ := I.look
  exact PySem.W.get_value X J (PySem.W.plainGet_of hg).1 (PySem.W.findObj_own hh ha rfl (by rw [hl, hv])) hv' h

theorem get_const {expr : Bool} {a : Value} {Q : Value → Shared → Prop} (X : K.In s.heap) (I : ObjM s.heap x dx C mA) (hg : PySem.W.plainGet K C name = true) (hh : PySem.W.hasDictIn K C = true)
    (ha : PySem.W.findIn K (.ref C) name = some (some a)) (hn : PySem.W.specialIn K a "__get__" = some none) (hc : PySem.W.copiedNames.contains name = false) (hv : mA name = none) (hv' : PySem.W.handedIn a = true)
    (h : Q a { s with toks := s.toks + 1 }) : wpAny (model prog w) A (getAttr (.ref x) name expr) Q E s := by
  obtain ⟨od, J, hl⟩ := I.look
  exact PySem.W.get_value X J (PySem.W.plainGet_of hg).1 (PySem.W.findObj_cls hh ha hn hv' hc (by rw [hl, hv])) hv' h

theorem get_meth {pl : Sem Bool} {Q : Value × List Value → Shared → Prop} (X : K.In s.heap) (I : ObjM s.heap x dx C mA) (hg : PySem.W.plainGet K C name = true)
    (hf : PySem.W.findIn K (.ref C) name = some (some (.ref f))) (ht : PySem.W.isFn K (.ref f) = true) (hv : mA name = none) (h : Q (.ref f, [.ref x]) s) :
    wpAny (model prog w) A (getMethod (.ref x) name pl) Q E s := by
  obtain ⟨od, J, hl⟩ := I.look
  exact PySem.W.method_fn X J (PySem.W.plainGet_of hg).1 (PySem.W.plainGet_of hg).2 hf (beq_iff_eq.mp ht) (by show (PySem.W.lookIn name od).map (·.isSome) = some false; rw [hl, hv]; rfl) h

theorem set_map {ns : List Str} {Q : Unit → Shared → Prop} (X : K.In s.heap) (I : ObjM s.heap x dx C mA)
    (hs : PySem.W.findIn K (.ref C) "__setattr__" = some (some (.builtin "object.__setattr__"))) (hp : PySem.W.plainOver K C = true) (ht : PySem.W.takerIn K C name = some none) (hh : PySem.W.hasDictIn K C = true)
    (hw : PySem.Within mA ns) (hsz : ns.length ≤ sizeLine)
    (h : ∀ h', ObjM h' x dx C (fun y => if y = name then some v else mA y) → Heap.SameBut dx s.heap h' → Q () { s with heap := h', toks := s.toks + 2 }) :
    wpAny (model prog w) A (setAttr (.ref x) name v) Q E s := by
  obtain ⟨od, J, hl⟩ := I.look
  refine PySem.W.set_plain X J hs (PySem.W.osa_open (s := { s with toks := s.toks + 1 }) (r := none) X J hp ht fun b => ?_)
  obtain ⟨cd, hc, hd'⟩ := PySem.W.any_some hh
  have hx : s.heap.get? x = some ⟨.ref C, some dx, .plain, #[]⟩ := I.obj
  refine wpAny_bind (wpAny_pure (wpAny_bind (wpAny_bind (wpAny_loadPart hx (wpAny_bind (PySem.W.Looks.here (s := { s with toks := s.toks + 1 }) (PySem.W.looks_clsIn X hc) ?_))))))
  rw [hd']
  refine wpAny_pure (a := some dx) (wpAny_bind (wpAny_pure (wpAny_bind ?_)))
  refine wpAny_nsSet1 (s := { s with toks := s.toks + 1 }) I.ns fun h' hn2 hs2 => ?_
  obtain ⟨oD, esD, epD, hoD, hdD, hcD⟩ := hn2.count (PySem.Within.cons name v hw)
  refine wpAny_bind (wpAny_lookBehind hoD (by rw [hdD]; exact pastItsLine_dict (Nat.le_trans hcD (by rw [List.length_cons]; omega))) ?_)
  exact wpAny_pure (h _ ⟨(hs2.2 _ (Ne.symm I.ne)).trans I.obj, hn2, I.ne⟩ hs2)

/-- C(..): the dict at the heap's end, the instance behind it; then its __init__ -/
theorem make_map {R : Result → Shared → Prop} {vs : List Value} {kw : List (Str × Value)} (X : K.In s.heap) (hm : PySem.W.makesIn K C = true)
    (hi : PySem.W.findIn K (.ref C) "__init__" = some (some (.ref f))) (hf : PySem.W.typeIn K (.ref f) = some (.type "function"))
    (h : codeAny (model prog w) (A.under (.builtin "type.__call__" ⟨.ref C :: vs, kw⟩)) (.call (.ref f) ⟨.ref (s.heap.objs.size + 1) :: vs, kw⟩) (PySem.W.InitBack (s.heap.objs.size + 1) R)
      { s with heap := (s.heap.push PySem.W.emptyDict).push (PySem.W.instObj C s.heap.objs.size) }) :
    codeAny (model prog w) A (.call (.ref C) ⟨vs, kw⟩) R s := by
  obtain ⟨hh, g, d, t, os⟩ := s
  exact PySem.W.make_core (PySem.W.makes_of X hm) (PySem.W.looks_findIn X hi) (fun self => PySem.W.bind_fn X self hf) (.inl rfl) h
/-- C() where there is no __init__ but object's -/
theorem make_map0 {R : Result → Shared → Prop} (X : K.In s.heap) (hm : PySem.W.makesIn K C = true)
    (hi : PySem.W.findIn K (.ref C) "__init__" = some (some (.builtin "object.__init__")))
    (hb : ∀ self, PySem.W.Looks (model prog w) s.heap (bindSpecial (.builtin "object.__init__") self) (.builtin "object.__init__", [self]))
    (h : codeAny (model prog w) (A.under (.builtin "type.__call__" ⟨[.ref C], []⟩)) (.call (.builtin "object.__init__") ⟨[.ref (s.heap.objs.size + 1)], []⟩) (PySem.W.InitBack (s.heap.objs.size + 1) R)
      { s with heap := (s.heap.push PySem.W.emptyDict).push (PySem.W.instObj C s.heap.objs.size) }) :
    codeAny (model prog w) A (.call (.ref C) ⟨[], []⟩) R s := by
  obtain ⟨hh, g, d, t, os⟩ := s
  exact PySem.W.make_core (PySem.W.makes_of X hm) (PySem.W.looks_findIn X hi) hb (.inr ⟨rfl, rfl⟩) h
end

/-! ### the attributes as a list of pairs -/
def putF (f : Str) (v : V) : List (Str × V) → List (Str × V)
  | [] => [(f, v)]
  | (g, x) :: r => if g = f then (g, v) :: r else (g, x) :: putF f v r
theorem lookup_putF (f g : Str) (v : V) : ∀ fs : List (Str × V), (putF f v fs).lookup g = if g = f then some v else fs.lookup g
  | [] => by
    show List.lookup g [(f, v)] = _
    by_cases h : g = f
    · have hb : (g == f) = true := beq_iff_eq.mpr h
      simp only [List.lookup, hb, if_pos h]
    · have hb : (g == f) = false := beq_eq_false_iff_ne.mpr h
      simp only [List.lookup, hb, if_neg h]
  | (k, x) :: r => by
    have ih := lookup_putF f g v r
    rw [show putF f v ((k, x) :: r) = (if k = f then (k, v) :: r else (k, x) :: putF f v r) from rfl]
    by_cases hk : k = f
    · rw [if_pos hk]
      by_cases h : g = k
      · have hb : (g == k) = true := beq_iff_eq.mpr h
        simp only [List.lookup, hb, if_pos (h.trans hk)]
      · have hb : (g == k) = false := beq_eq_false_iff_ne.mpr h
        simp only [List.lookup, hb, if_neg (fun e : g = f => h (e.trans hk.symm))]
    · rw [if_neg hk]
      by_cases h : g = k
      · have hb : (g == k) = true := beq_iff_eq.mpr h
        simp only [List.lookup, hb, if_neg (fun e : g = f => hk (h.symm.trans e))]
      · have hb : (g == k) = false := beq_eq_false_iff_ne.mpr h
        simp only [List.lookup, hb]
        exact ih
theorem keys_putF (f : Str) (v : V) : ∀ fs : List (Str × V), f ∈ (putF f v fs).map (·.1) ∧ ∀ g, g ∈ fs.map (·.1) → g ∈ (putF f v fs).map (·.1)
  | [] => ⟨by simp [putF], fun g h => by simp at h⟩
  | (k, x) :: r => by
    obtain ⟨i1, i2⟩ := keys_putF f v r
    rw [show putF f v ((k, x) :: r) = (if k = f then (k, v) :: r else (k, x) :: putF f v r) from rfl]
    by_cases hk : k = f
    · rw [if_pos hk]
      subst hk
      exact ⟨by simp, fun g h => by simpa using h⟩
    · rw [if_neg hk]
      refine ⟨?_, fun g h => ?_⟩
      · rw [List.map_cons]
        exact List.mem_cons_of_mem _ i1
      · rw [List.map_cons] at h ⊢
        rcases List.mem_cons.mp h with e | e
        · exact List.mem_cons.mpr (.inl e)
        · exact List.mem_cons_of_mem _ (i2 g e)
theorem length_putF (f : Str) (v : V) : ∀ fs : List (Str × V), (putF f v fs).length ≤ fs.length + 1
  | [] => by simp [putF]
  | (k, x) :: r => by
    have ih := length_putF f v r
    rw [show putF f v ((k, x) :: r) = (if k = f then (k, v) :: r else (k, x) :: putF f v r) from rfl]
    by_cases hk : k = f
    · rw [if_pos hk, List.length_cons, List.length_cons]; omega
    · rw [if_neg hk, List.length_cons, List.length_cons]; omega

theorem RelO.some_of {v : V} {o : Option Value} (r : RelO (some v) o) : ∃ u, o = some u ∧ RelV v u := by
  cases o with
  | none => exact (show False from r).elim
  | some u => exact ⟨u, rfl, r⟩
theorem RelO.none_of {o : Option Value} (r : RelO none o) : o = none := by
  cases o with
  | none => rfl
  | some u => exact (show False from r).elim
theorem handed_of {v : V} {u : Value} (r : RelV v u) : PySem.W.handedIn u = true := by
  cases v with
  | non => cases (show u = Value.none from r); rfl
  | bl b => cases (show u = Value.bool b from r); rfl
  | int i => obtain ⟨t, e⟩ := (show ∃ t, u = Value.int i t from r); cases e; rfl
  | str x => obtain ⟨t, e⟩ := (show ∃ t, u = Value.str x t from r); cases e; rfl
  | byt b => obtain ⟨t, e⟩ := (show ∃ t, u = Value.bytes b t from r); cases e; rfl
  | flt b => obtain ⟨t, e⟩ := (show ∃ t, u = Value.float b t from r); cases e; rfl
  | ref a => cases (show u = Value.ref a from r); rfl
  | ty n => cases (show u = Value.type n from r); rfl

section
variable {P : Program} {w : World} {H H' : Hp} {h h' : Heap} {a C dx : Addr} {fs fs' : List (Str × V)}
theorem ins_get (hok : HOk P w H h) (e : H a = some (.ins C dx fs)) : ∃ mA, ObjM h a dx C mA ∧ (∀ f, RelO (fs.lookup f) (mA f)) ∧ PySem.Within mA (fs.map (·.1)) ∧ fs.length ≤ 1000 ∧ H dx = some (.own a) := by
  obtain ⟨d, z, ne, ob, mA, n, r, q⟩ := (show ObjOk P w H h a (.ins C dx fs) from hok a _ e)
  exact ⟨mA, ⟨ob, n, ne⟩, r, q, z, d⟩
end

/-! ### what of the text a class must have -/
structure Cls (K : PySem.W.Frag) (C : Addr) : Prop where
  pg : PySem.W.plainGet K C Str.empty = true
  hd : PySem.W.hasDictIn K C = true
  po : PySem.W.plainOver K C = true
  sa : PySem.W.findIn K (.ref C) "__setattr__" = some (some (.builtin "object.__setattr__"))
theorem Cls.get {K : PySem.W.Frag} {C : Addr} (c : Cls K C) (f : Str) : PySem.W.plainGet K C f = true := c.pg
/-- no class of it has the name -/
def NoAttr (K : PySem.W.Frag) (C : Addr) (f : Str) : Prop := PySem.W.findIn K (.ref C) f = some none
theorem NoAttr.taker {K : PySem.W.Frag} {C : Addr} {f : Str} (n : NoAttr K C f) : PySem.W.takerIn K C f = some none := by
  unfold PySem.W.takerIn
  rw [show PySem.W.findIn K (.ref C) f = some none from n]
  rfl
/-- a constant of the class -/
structure Con (K : PySem.W.Frag) (C : Addr) (f : Str) (v : V) (u : Value) : Prop where
  at_ : PySem.W.findIn K (.ref C) f = some (some u)
  rel : RelV v u
  get : PySem.W.specialIn K u "__get__" = some none
  cp : PySem.W.copiedNames.contains f = false
/-- a method: a plain def of the class or of one above it -/
structure Meth (K : PySem.W.Frag) (C : Addr) (m : Str) (f : Addr) : Prop where
  at_ : PySem.W.findIn K (.ref C) m = some (some (.ref f))
  fn : PySem.W.isFn K (.ref f) = true
  kp : PySem.W.keepIn K (.ref f) = true

section
variable {X : Cx} {pins : List (Addr × Obj)} {σ : St} {H : Hp} {s : Shared} {a C dx : Addr} {fs : List (Str × V)} {f : Str} {v : V} {A : Around} {E : Value → Shared → Prop}

theorem getattr_ok {b : Bool} {Q : Value → Shared → Prop} (I : Inv X pins σ H s) (e : H a = some (.ins C dx fs)) (c : Cls X.K C) (n : NoAttr X.K C f) (l : fs.lookup f = some v)
    (h : ∀ u s', Inv X pins σ H s' → RelV v u → Q u s') : wpAny (model X.prog X.w) A (getAttr (.ref a) f b) Q E s := by
  obtain ⟨mA, O, r, _, _, _⟩ := ins_get I.hok e
  obtain ⟨u, hu, ru⟩ := RelO.some_of (v := v) (o := mA f) (by rw [← l]; exact r f)
  exact get_map I.kIn O (c.get f) c.hd n hu (handed_of ru) (h u _ (I.tok _) ru)

theorem getcon_ok {b : Bool} {u : Value} {Q : Value → Shared → Prop} (I : Inv X pins σ H s) (e : H a = some (.ins C dx fs)) (c : Cls X.K C) (k : Con X.K C f v u) (l : fs.lookup f = none)
    (h : ∀ s', Inv X pins σ H s' → Q u s') : wpAny (model X.prog X.w) A (getAttr (.ref a) f b) Q E s := by
  obtain ⟨mA, O, r, _, _, _⟩ := ins_get I.hok e
  have hn : mA f = none := RelO.none_of (by rw [← l]; exact r f)
  exact get_const I.kIn O (c.get f) c.hd k.at_ k.get k.cp hn (handed_of k.rel) (h _ (I.tok _))

theorem getmeth_ok {m : Str} {g : Addr} {pl : Sem Bool} {Q : Value × List Value → Shared → Prop} (I : Inv X pins σ H s) (e : H a = some (.ins C dx fs)) (c : Cls X.K C) (k : Meth X.K C m g) (l : fs.lookup m = none)
    (h : Q (.ref g, [.ref a]) s) : wpAny (model X.prog X.w) A (getMethod (.ref a) m pl) Q E s := by
  obtain ⟨mA, O, r, _, _, _⟩ := ins_get I.hok e
  have hn : mA m = none := RelO.none_of (by rw [← l]; exact r m)
  exact get_meth I.kIn O (c.get m) k.at_ k.fn hn h

theorem setattr_ok {y : V} {u : Value} {Q : Unit → Shared → Prop} (I : Inv X pins σ H s) (e : H a = some (.ins C dx fs)) (c : Cls X.K C) (n : NoAttr X.K C f) (hl : fs.length < 1000) (ry : RelV y u)
    (h : ∀ s', Inv X pins σ (upd H a (.ins C dx (putF f y fs))) s' → Q () s') : wpAny (model X.prog X.w) A (setAttr (.ref a) f u) Q E s := by
  obtain ⟨mA, O, r, wi, _, ho⟩ := ins_get I.hok e
  have hz : (fs.map (·.1)).length ≤ sizeLine := by rw [List.length_map, sizeLine_eq]; omega
  refine set_map I.kIn O c.sa c.po n.taker c.hd wi hz fun h' O' sb => h _ ?_
  have hd : ∃ o, h'.get? dx = some o := let ⟨o, _, _, e', _⟩ := O'.ns; ⟨o, e'⟩
  refine I.write (x := a) (e := dx) (by rw [e]; exact True.intro) (.inr ho) (fun b q hb z => (sb.2 b hb).trans z) hd ?_
  refine ⟨by rw [upd_ne O.ne]; exact ho, ?_, O.ne, O'.obj, _, O'.ns, fun g => ?_, fun g hg => ?_⟩
  · have := length_putF f y fs; omega
  · show RelO ((putF f y fs).lookup g) (if g = f then some u else mA g)
    rw [lookup_putF]
    by_cases q : g = f
    · rw [if_pos q, if_pos q]; exact ry
    · rw [if_neg q, if_neg q]; exact r g
  · by_cases q : g = f
    · rw [q]; exact (keys_putF f y fs).1
    · refine (keys_putF f y fs).2 g (wi g fun z => hg ?_)
      show (if g = f then some u else mA g) = none
      rw [if_neg q]; exact z

/-- a new instance, tracked, without attributes -/
theorem Inv.made (I : Inv X pins σ H s) : Inv X pins σ (upd (upd H s.heap.objs.size (.own (s.heap.objs.size + 1))) (s.heap.objs.size + 1) (.ins C s.heap.objs.size []))
    { s with heap := (s.heap.push PySem.W.emptyDict).push (PySem.W.instObj C s.heap.objs.size) } := by
  have e1 : (s.heap.push PySem.W.emptyDict).get? s.heap.objs.size = some PySem.W.emptyDict := Heap.get?_push_size s.heap rfl
  have e2 : ((s.heap.push PySem.W.emptyDict).push (PySem.W.instObj C s.heap.objs.size)).get? (s.heap.objs.size + 1) = some (PySem.W.instObj C s.heap.objs.size) := by
    have := Heap.get?_push_size (s.heap.push PySem.W.emptyDict) (o := PySem.W.instObj C s.heap.objs.size) rfl
    rwa [Heap.size_push] at this
  have e3 : (s.heap.push PySem.W.emptyDict).Ns s.heap.objs.size (fun _ => none) := ⟨PySem.W.emptyDict, #[], _, e1, rfl, (fun e he => absurd he (by simp)), fun _ => rfl⟩
  have I1 := I.laid (a := s.heap.objs.size) (o := .own (s.heap.objs.size + 1)) (h' := s.heap.push PySem.W.emptyDict) (t' := s.toks) (fun b u q => Heap.get?_push_of_some _ q) (Nat.le_refl _) ⟨_, e1⟩
  refine I1.laid (a := s.heap.objs.size + 1) (o := .ins C s.heap.objs.size []) (t' := s.toks) (fun b u q => Heap.get?_push_of_some _ q) (Nat.le_of_eq (Heap.size_push _ _)) ?_
  have ne : s.heap.objs.size ≠ s.heap.objs.size + 1 := Nat.ne_of_lt (Nat.lt_succ_self _)
  refine ⟨by rw [upd_ne ne, upd_same], Nat.zero_le _, ne, e2, fun _ => none, (Heap.Ns1.of_empty e3).at fun o q => Heap.get?_push_of_some _ q, fun _ => True.intro, fun y hy => absurd rfl hy⟩

/-- e.f where nothing but the object is asked: through attributeBase (super) and the last hold -/
theorem attr_of {prog : Program} {w : World} {env : Env} {e : Expr} {f : Str} {pos : Pos} {s : Shared} {Q : Value → Shared → Prop} (hb : attributeBase e f env (eval e env) = eval e env)
    (h : wpAny (model prog w) A (eval e env) (fun o s₁ => wpAny (model prog w) A (getAttr o f true) Q E s₁) E s) : wpAny (model prog w) A (eval (.Attribute e f pos) env) Q E s :=
  Attribute_any_ h (by rw [arm_eval_Attribute, hb])
end

/-! ### readings and rules -/
/-- e.f, an attribute of the instance -/
def tFld (K : PySem.W.Frag) (ta : TE) (f : Str) : TE := fun σ H Q => ta σ H fun x H1 => ∃ a C dx fs v, x = .ref a ∧ H1 a = some (.ins C dx fs) ∧ Cls K C ∧ NoAttr K C f ∧ fs.lookup f = some v ∧ Q v H1
/-- e.f, a constant of the class -/
def tCon (K : PySem.W.Frag) (ta : TE) (f : Str) : TE := fun σ H Q => ta σ H fun x H1 => ∃ a C dx fs v u, x = .ref a ∧ H1 a = some (.ins C dx fs) ∧ Cls K C ∧ Con K C f v u ∧ fs.lookup f = none ∧ Q v H1
/-- e.f = value -/
def sFld (K : PySem.W.Frag) (ta tv : TE) (f : Str) : TS := fun D σ H => tv σ H fun y H1 => ta σ H1 fun x H2 => ∃ a C dx fs, x = .ref a ∧ H2 a = some (.ins C dx fs) ∧ Cls K C ∧ NoAttr K C f ∧ fs.length < 1000 ∧
  D.nx σ (upd H2 a (.ins C dx (putF f y fs)))
/-- an augmented operator on two values -/
def InOp (X : Cx) (op : Operator) (rd : V → V → Hp → VK → Prop) : Prop :=
  ∀ (pins : List (Addr × Obj)) (s : Shared) (σ : St) (H : Hp) (x y : V) (u v : Value) (Q : VK), Inv X pins σ H s → RelV x u → RelV y v → rd x y H Q → wpAny (model X.prog X.w) X.A (inplaceOp op u v) (EP X pins σ Q) X.xe s
/-- e.f op= value -/
def sFldAug (K : PySem.W.Frag) (ta tv : TE) (rd : V → V → Hp → VK → Prop) (f : Str) : TS := fun D σ H => ta σ H fun x H1 => ∃ a C dx fs v, x = .ref a ∧ H1 a = some (.ins C dx fs) ∧ Cls K C ∧ NoAttr K C f ∧ fs.lookup f = some v ∧
  tv σ H1 fun y H2 => rd v y H2 fun z H3 => ∃ dx' fs', H3 a = some (.ins C dx' fs') ∧ fs'.length < 1000 ∧ D.nx σ (upd H3 a (.ins C dx' (putF f z fs')))

section
variable {X : Cx} {o e value : Expr} {f : Str} {pos pos' tpos : Pos} {ta tv : TE}
theorem pe_fld (he : PE X e ta) (hb : attributeBase e f X.env (eval e X.env) = eval e X.env) : PE X (.Attribute e f pos) (tFld X.K ta f) := by
  intro pins s σ H Q I h
  refine attr_of hb (thn (he pins s σ H _ I h) fun u s1 ⟨x, H1, I1, rx, a, C, dx, fs, v, ex, ea, c, n, l, q⟩ => ?_)
  subst ex
  obtain rfl : u = Value.ref a := rx
  exact getattr_ok I1 ea c n l fun u' s2 I2 ru => ⟨v, H1, I2, ru, q⟩
theorem pe_con (he : PE X e ta) (hb : attributeBase e f X.env (eval e X.env) = eval e X.env) : PE X (.Attribute e f pos) (tCon X.K ta f) := by
  intro pins s σ H Q I h
  refine attr_of hb (thn (he pins s σ H _ I h) fun u s1 ⟨x, H1, I1, rx, a, C, dx, fs, v, u0, ex, ea, c, k, l, q⟩ => ?_)
  subst ex
  obtain rfl : u = Value.ref a := rx
  exact getcon_ok I1 ea c k l fun s2 I2 => ⟨v, H1, I2, k.rel, q⟩
theorem ps_fld (ha : PE X o ta) (hv : PE X value tv) (hs : swapsWith value (some (.Attribute o f pos')) pos.line X.env = pure false) : PS X (.Assign [.Attribute o f pos'] value pos) (sFld X.K ta tv f) := by
  intro pins s σ H D I h
  refine plainObj_wpAny_Assign_Attribute (thn (hv pins s σ H _ I h) fun u s1 ⟨y, H1, I1, ry, q⟩ => thn (ha pins s1 σ H1 _ I1 q) fun ov s2 ⟨x, H2, I2, rx, a, C, dx, fs, ex, ea, c, n, l, q2⟩ => ?_) hs
  subst ex
  obtain rfl : ov = Value.ref a := rx
  exact setattr_ok I2 ea c n l ry fun s3 I3 => ⟨σ, _, I3, q2⟩
theorem ps_fldaug {op : Operator} {rd : V → V → Hp → VK → Prop} (ha : PE X o ta) (hv : PE X value tv) (hop : InOp X op rd) : PS X (.AugAssign (.Attribute o f tpos) op value pos) (sFldAug X.K ta tv rd f) := by
  intro pins s σ H D I h
  refine wpAny_AugAssign_AttributeAny (thn (ha pins s σ H _ I h) fun ov s1 ⟨x, H1, I1, rx, a, C, dx, fs, v, ex, ea, c, n, l, q⟩ => ?_)
  subst ex
  obtain rfl : ov = Value.ref a := rx
  refine getattr_ok I1 ea c n l fun u s2 I2 ru => thn (hv pins s2 σ H1 _ I2 q) fun w3 s3 ⟨y, H2, I3, ry, q3⟩ => thn (hop pins s3 σ H2 v y u w3 _ I3 ru ry q3) fun w4 s4 ⟨z, H3, I4, rz, dx', fs', ea', l', q4⟩ => ?_
  exact setattr_ok I4 ea' c n l' rz fun s5 I5 => ⟨σ, _, I5, q4⟩
def rAdd : V → V → Hp → VK → Prop := fun x y H Q => ∃ i j, x = .int i ∧ y = .int j ∧ Q (.int (i + j)) H
def rSub : V → V → Hp → VK → Prop := fun x y H Q => ∃ i j, x = .int i ∧ y = .int j ∧ Q (.int (i - j)) H
theorem in_add : InOp X .Add rAdd := by
  rintro pins s σ H x y u v Q I rx ry ⟨i, j, rfl, rfl, q⟩
  obtain ⟨t, rfl⟩ := (show ∃ t, u = Value.int i t from rx)
  obtain ⟨t', rfl⟩ := (show ∃ t', v = Value.int j t' from ry)
  exact PyProof.Rows.iadd_int ⟨.int (i + j), H, I.tok _, ⟨_, rfl⟩, q⟩
theorem in_sub : InOp X .Sub rSub := by
  rintro pins s σ H x y u v Q I rx ry ⟨i, j, rfl, rfl, q⟩
  obtain ⟨t, rfl⟩ := (show ∃ t, u = Value.int i t from rx)
  obtain ⟨t', rfl⟩ := (show ∃ t', v = Value.int j t' from ry)
  exact PyProof.Rows.isub_int ⟨.int (i - j), H, I.tok _, ⟨_, rfl⟩, q⟩

/-- what is between an instance and its method: the tree of a method call -/
theorem methcall_of {pl : Sem Bool} {m : Str} {apos : Pos} {args : List Expr} {pins : List (Addr × Obj)} {s : Shared} {σ : St} {H : Hp} {Q : Value → Shared → Prop} {te : TE} (he : PE X e te) (I : Inv X pins σ H s)
    (h : te σ H fun x H1 => ∃ a C dx fs g, x = .ref a ∧ H1 a = some (.ins C dx fs) ∧ Cls X.K C ∧ Meth X.K C m g ∧ fs.lookup m = none ∧
      ∀ s1, Inv X pins σ H1 s1 → wpAny (model X.prog X.w) X.A (callWith pos (.ref g) [.ref a] (backTo pos (starEach args X.env)) (backToKw pos (keywordEach [] X.env))) Q X.xe s1)
    (ht : eval (.Call (.Attribute e m apos) args [] pos) X.env = (do
      let ov ← eval e X.env
      standAt apos.atName
      let (f, first) ← holding [ov] (getMethod ov m pl)
      callWith pos f first (backTo pos (starEach args X.env)) (backToKw pos (keywordEach [] X.env)))) :
    wpAny (model X.prog X.w) X.A (eval (.Call (.Attribute e m apos) args [] pos) X.env) Q X.xe s := by
  refine PySem.W.methodCall_KW (pl := pl) (thn (he pins s σ H _ I h) fun u s1 ⟨x, H1, I1, rx, a, C, dx, fs, g, ex, ea, c, k, l, q⟩ => ?_) ht
  subst ex
  obtain rfl : u = Value.ref a := rx
  exact getmeth_ok I1 ea c k l (q s1 I1)
end

/-! ### isinstance -/
section
variable {X : Cx} {pins : List (Addr × Obj)} {σ : St} {H : Hp} {s : Shared} {A : Around} {E : Value → Shared → Prop} {Q : Value → Shared → Prop} {c : Value} {b : Bool}
/-- the type of a value, as the fragment's deciders take it; for an instance its class -/
inductive TyOf (K : PySem.W.Frag) (H : Hp) : V → Value → Prop where
  | non : TyOf K H .non (.type "NoneType")
  | bl (x : Bool) : TyOf K H (.bl x) (.type "bool")
  | int (i : Int) : TyOf K H (.int i) (.type "int")
  | str (x : Str) : TyOf K H (.str x) (.type "str")
  | flt (x : UInt64) : TyOf K H (.flt x) (.type "float")
  | lst {a : Addr} {xs : List V} (e : H a = some (.lst xs)) : TyOf K H (.ref a) (.type "list")
  | frz {a : Addr} {o : Obj} {xs : List V} (e : H a = some (.frz o (.lst xs))) : TyOf K H (.ref a) (.type "list")
  | tup {a : Addr} {xs : List V} (e : H a = some (.tup xs)) : TyOf K H (.ref a) (.type "tuple")
  | dK {a : Addr} {kvs : List (Key × V)} (e : H a = some (.dK kvs)) : TyOf K H (.ref a) (.type "dict")
  | dT {a : Addr} {kvs : List (List Key × V)} (e : H a = some (.dT kvs)) : TyOf K H (.ref a) (.type "dict")
  | ins {a C dx : Addr} {fs : List (Str × V)} (e : H a = some (.ins C dx fs)) (cl : Cls K C) (ha : PySem.W.findIn K (.ref C) "__class__" = some (some (.builtin "object.__class__")))
      (hn : PySem.W.specialIn K (.builtin "object.__class__") "__get__" = some (some (.builtin "getset_descriptor.__get__"))) (htk : PySem.W.takesIn K (.builtin "object.__class__") = some true)
      (hm : PySem.W.mroIn K C (.type "object") = some true) : TyOf K H (.ref a) (.ref C)
/-- isinstance(x, c) for one class c, a built-in or an own one: kitOne's answer -/
theorem isinst_ok {x : V} {u t : Value} (I : Inv X pins σ H s) (rx : RelV x u) (ty : TyOf X.K H x t) (e : PySem.W.kitOne X.K t c = some b) (h : ∀ tk, Q (.bool b) { s with toks := tk }) :
    wpAny (model X.prog X.w) A (call (.builtin "isinstance") [u, c]) Q E s := by
  cases ty with
  | non => cases (show u = Value.none from rx); exact PySem.W.kia_one PySem.W.kitx_none I.kIn True.intro e (fun z => nomatch z) h
  | bl y => cases (show u = Value.bool y from rx); exact PySem.W.kia_one PySem.W.kitx_bool I.kIn True.intro e (fun z => nomatch z) h
  | int i => obtain ⟨t, q⟩ := (show ∃ t, u = Value.int i t from rx); cases q; exact PySem.W.kia_one PySem.W.kitx_int I.kIn True.intro e (fun z => nomatch z) h
  | str y => obtain ⟨t, q⟩ := (show ∃ t, u = Value.str y t from rx); cases q; exact PySem.W.kia_one PySem.W.kitx_str I.kIn True.intro e (fun z => nomatch z) h
  | flt y => obtain ⟨t, q⟩ := (show ∃ t, u = Value.float y t from rx); cases q; exact PySem.W.kia_one PySem.W.kitx_float I.kIn True.intro e (fun z => nomatch z) h
  | @lst a xs ea =>
    cases (show u = Value.ref a from rx)
    obtain ⟨_, _, n, _, h1⟩ := (show ObjOk X.prog X.w H s.heap a (.lst xs) from I.hok a _ ea)
    exact PySem.W.kia_one PySem.W.kitx_list I.kIn ⟨_, h1, rfl⟩ e (fun z => nomatch z) h
  | @frz a ob xs ea =>
    cases (show u = Value.ref a from rx)
    obtain ⟨_, _, _, n, _, h1⟩ := (show ObjOk X.prog X.w H s.heap a (.frz ob (.lst xs)) from I.hok a _ ea)
    exact PySem.W.kia_one PySem.W.kitx_list I.kIn ⟨_, h1, rfl⟩ e (fun z => nomatch z) h
  | @tup a xs ea =>
    cases (show u = Value.ref a from rx)
    obtain ⟨_, _, _, p⟩ := (show ObjOk X.prog X.w H s.heap a (.tup xs) from I.hok a _ ea)
    obtain ⟨o, h1, h2, _⟩ := p
    exact PySem.W.kia_one PySem.W.kitx_tuple I.kIn ⟨o, h1, h2⟩ e (fun z => nomatch z) h
  | @dK a kvs ea =>
    cases (show u = Value.ref a from rx)
    obtain ⟨_, _, vs, _, p⟩ := (show ObjOk X.prog X.w H s.heap a (.dK kvs) from I.hok a _ ea)
    obtain ⟨o, es, ep, h1, h2, _⟩ := p
    exact PySem.W.kia_one PySem.W.kitx_dict I.kIn ⟨o, h1, h2.1⟩ e (fun z => nomatch z) h
  | @dT a kvs ea =>
    cases (show u = Value.ref a from rx)
    obtain ⟨_, _, xs, _, o, es, ep, h1, h2, _⟩ := (show ObjOk X.prog X.w H s.heap a (.dT kvs) from I.hok a _ ea)
    exact PySem.W.kia_one PySem.W.kitx_dict I.kIn ⟨o, h1, h2.1⟩ e (fun z => nomatch z) h
  | @ins a C dx fs ea cl ha hn htk hm =>
    cases (show u = Value.ref a from rx)
    obtain ⟨mA, O, _⟩ := ins_get I.hok ea
    obtain ⟨od, J, _⟩ := O.look
    exact PySem.W.kia_one (PySem.W.kitx_own (cl.get _) cl.hd ha hn htk hm) I.kIn J e (fun z => nomatch z) h
end
end L2

namespace L2
open PySem PySem.Spec PyProof.Rows

/-! ### room -/
structure Room (k : Nat) (A : Around) : Prop where
  hd : A.handled = none
  dp : A.depth + 3 * k + 5 < recursionLimit
  un : A.units + 16 * k + 200 < cLine
theorem Room.mono {j k : Nat} {A : Around} (r : Room k A) (h : j ≤ k) : Room j A := ⟨r.hd, by have := r.dp; omega, by have := r.un; omega⟩
theorem Room.deeper {k : Nat} {A : Around} (r : Room (k + 1) A) (env : Env) : Room k (A.deeper env) :=
  ⟨r.hd, by have := r.dp; show A.depth + 1 + 3 * k + 5 < _; omega, by have := r.un; show A.units + 3 + 16 * k + 200 < _; omega⟩
theorem Room.in1 {k : Nat} {A : Around} (r : Room (k + 1) A) : Room k A.in1 :=
  ⟨r.hd, by have := r.dp; show A.depth + 3 * k + 5 < _; omega, by have := r.un; show A.units + 1 + 16 * k + 200 < _; omega⟩
theorem make_depth {A : Around} {C : Addr} {us : List Value} {kw : List (Str × Value)} : (A.under (.builtin "type.__call__" ⟨.ref C :: us, kw⟩)).depth = A.depth + 1 := by
  first | rfl | simp [Around.under, Code.weight, Code.isCreation, Code.isGuard, Code.isCaller, Code.frames, Code.isFrame, guardIds]
theorem make_units {A : Around} {C : Addr} {us : List Value} {kw : List (Str × Value)} : (A.under (.builtin "type.__call__" ⟨.ref C :: us, kw⟩)).units = A.units + 1 := by
  first | rfl | simp [Around.under, Code.cUnits, Code.frames, Code.isFrame]
theorem Room.make {k : Nat} {A : Around} (r : Room (k + 1) A) (C : Addr) (us : List Value) (kw : List (Str × Value)) : Room k (A.under (.builtin "type.__call__" ⟨.ref C :: us, kw⟩)) :=
  ⟨r.hd, by have := r.dp; rw [make_depth]; omega, by have := r.un; rw [make_units]; omega⟩
theorem Room.depth {k : Nat} {A : Around} (r : Room k A) : A.depth < recursionLimit := by have := r.dp; omega
theorem Room.units {k : Nat} {A : Around} (r : Room k A) : A.units + 64 < cLine := by have := r.un; omega
theorem Room.units0 {k : Nat} {A : Around} (r : Room k A) : A.units < cLine := by have := r.un; omega

/-! ### argument lists and displays -/
def tNil : TA := fun _ H Q => Q [] H
def tCons (ta : TE) (tr : TA) : TA := fun σ H Q => ta σ H fun x H1 => tr σ H1 fun xs H2 => Q (x :: xs) H2
section
variable {X : Cx} {e : Expr} {es : List Expr} {te : TE} {t : TA} {pos : Pos}
theorem pa_nil : PA X [] tNil := fun _ _ _ _ H Q I h => Calls.spliced_nil ⟨[], H, I, .nil, h⟩
theorem pa_cons (ha : PE X e te) (hr : PA X es t) (hs : starEach (e :: es) X.env = (false, eval e X.env) :: starEach es X.env := by rfl) : PA X (e :: es) (tCons te t) := by
  intro pos pins s σ H Q I h
  rw [hs]
  show wpAny _ _ (spliced ((false, eval e X.env) :: backTo pos (starEach es X.env))) _ _ s
  refine Calls.spliced_cons (thn (ha pins s σ H _ I h) fun u s1 ⟨x, H1, I1, r1, q1⟩ => ?_)
  exact thn (hr pos pins s1 σ H1 _ I1 q1) fun us s2 ⟨xs, H2, I2, r2, q2⟩ => ⟨x :: xs, H2, I2, .cons r1 r2, q2⟩

/-- a tuple, a list of written items -/
def tTup (t : TA) : TE := fun σ H Q => t σ H fun xs H1 => xs.length ≤ sizeLine ∧ ∀ p, H1 p = none → Q (.ref p) (upd H1 p (.tup xs))
def tLst (t : TA) : TE := fun σ H Q => t σ H fun xs H1 => xs.length ≤ sizeLine ∧ ∀ p, H1 p = none → Q (.ref p) (upd H1 p (.lst xs))
theorem pe_tup {x1} (h : PA X es t) : PE X (.Tuple es x1 pos) (tTup t) := by
  intro pins s σ H Q I hq
  refine wpAny_Tuple_spliced (thn (h pos pins s σ H _ I hq) fun us s1 ⟨xs, H1, I1, r, z, q⟩ => ⟨by rw [← r.length]; exact z, ?_⟩)
  have hf : H1 s1.heap.objs.size = none := I1.hok.fresh (Nat.le_refl _)
  refine ⟨.ref s1.heap.objs.size, upd H1 s1.heap.objs.size (.tup xs), I1.laid (t' := s1.toks) (fun b u e => Heap.get?_push_of_some _ e) (Nat.le_refl _) ?_, rfl, q _ hf⟩
  exact ⟨z, us, r, ⟨_, Heap.get?_push_size _ rfl, rfl, _, rfl⟩⟩
theorem pe_lst (h : PA X es t) : PE X (.List es pos) (tLst t) := by
  intro pins s σ H Q I hq
  refine wpAny_List_spliced (thn (h pos pins s σ H _ I hq) fun us s1 ⟨xs, H1, I1, r, z, q⟩ => ⟨by rw [← r.length]; exact z, ?_⟩)
  have hf : H1 s1.heap.objs.size = none := I1.hok.fresh (Nat.le_refl _)
  refine ⟨.ref s1.heap.objs.size, upd H1 s1.heap.objs.size (.lst xs), I1.laid (t' := s1.toks) (fun b u e => Heap.get?_push_of_some _ e) (Nat.le_refl _) ?_, rfl, q _ hf⟩
  exact ⟨z, us, 0, r, Heap.get?_push_size _ rfl⟩
end

/-! ### what a def promises -/
/-- a def's promise: the bound arguments in the parameters' order, the heap, the wanted end, the wanted exception -/
abbrev Sp := List V → Hp → VK → XK → Prop
/-- how an exception lies behind a call (file 08 gives it): the callers' frames, abstract heap and state ahead of the call, the wish, the exception, the state -/
abbrev CXT := List Env → Hp → Shared → XK → Value → Shared → Prop

/-- the state at a call -/
structure Env0 (P : Program) (w : World) (K : PySem.W.Frag) (mg : Str → Option Value) (base : Heap) (A : Around) (outer : List Env) (s : Shared) (H : Hp) : Prop where
  frames : A.frames = some outer
  mod : Mod K mg base
  bs : ∀ b o, base.get? b = some o → s.heap.get? b = some o ∧ H b = none
  bsz : base.objs.size ≤ s.heap.objs.size
  funs : s.heap.FunFrames base outer
  frf : ∀ b ∈ frs outer, H b = none
  hok : HOk P w H s.heap
  bare : AllBare s.gens
/-- a call's end -/
def CE (outer : List Env) (P : Program) (w : World) (H : Hp) (s : Shared) (Q : VK) (u : Value) (s' : Shared) : Prop :=
  ∃ v H', s'.os = s.os ∧ AllBare s'.gens ∧ Un (frs outer) [] H H' s.heap s'.heap ∧ HOk P w H' s'.heap ∧ RelV v u ∧ Q v H'
def CR (CX : CXT) (outer : List Env) (P : Program) (w : World) (H : Hp) (s : Shared) (Q : VK) (E : XK) (r : Result) (s' : Shared) : Prop :=
  match r with
  | .ok (.ret u) => CE outer P w H s Q u s'
  | .ok _ => False
  | .error e => CX outer H s E e s'
structure FnOk (P : Program) (w : World) (K : PySem.W.Frag) (mg : Str → Option Value) (base : Heap) (CX : CXT) (k : Nat) (f : Addr) (fd : FuncData) (ps : List Str) (sp : Sp) : Prop where
  len : ∀ vs H Q E, sp vs H Q E → vs.length = ps.length
  run : ∀ (A : Around) (outer : List Env) (s : Shared) (H : Hp) (args : Args) (us : List Value) (vs : List V) (Q : VK) (E : XK), Room k A → Env0 P w K mg base A outer s H → BindsTo s fd args (ps.zip us) → Vals vs us → sp vs H Q E →
    codeAny (model P w) A (.call (.ref f) args) (CR CX outer P w H s Q E) s
theorem FnOk.mono {P : Program} {w : World} {K : PySem.W.Frag} {mg : Str → Option Value} {base : Heap} {CX : CXT} {j k : Nat} {f : Addr} {fd : FuncData} {ps : List Str} {sp : Sp} (F : FnOk P w K mg base CX j f fd ps sp) (h : j ≤ k) :
    FnOk P w K mg base CX k f fd ps sp := ⟨F.len, fun A outer s H args us vs Q E hr => F.run A outer s H args us vs Q E (hr.mono h)⟩
/-- a weaker promise -/
theorem FnOk.imp {P : Program} {w : World} {K : PySem.W.Frag} {mg : Str → Option Value} {base : Heap} {CX : CXT} {k : Nat} {f : Addr} {fd : FuncData} {ps : List Str} {sp sp' : Sp} (F : FnOk P w K mg base CX k f fd ps sp)
    (h : ∀ vs H Q E, sp' vs H Q E → sp vs H Q E) : FnOk P w K mg base CX k f fd ps sp' :=
  ⟨fun vs H Q E q => F.len vs H Q E (h _ _ _ _ q), fun A outer s H args us vs Q E hr he hb hv hs => F.run A outer s H args us vs Q E hr he hb hv (h _ _ _ _ hs)⟩

theorem Env0.make {P : Program} {w : World} {K : PySem.W.Frag} {mg : Str → Option Value} {base : Heap} {A : Around} {outer : List Env} {s : Shared} {H : Hp} (e : Env0 P w K mg base A outer s H) (C : Addr) (us : List Value) (kw : List (Str × Value)) :
    Env0 P w K mg base (A.under (.builtin "type.__call__" ⟨.ref C :: us, kw⟩)) outer s H := ⟨by first | exact e.frames | (simpa [Around.under, Code.envs, Code.isFrame, pushEnvs] using e.frames), e.mod, e.bs, e.bsz, e.funs, e.frf, e.hok, e.bare⟩
theorem Env0.in1 {P : Program} {w : World} {K : PySem.W.Frag} {mg : Str → Option Value} {base : Heap} {A : Around} {outer : List Env} {s : Shared} {H : Hp} (e : Env0 P w K mg base A outer s H) :
    Env0 P w K mg base A.in1 outer s H := ⟨e.frames, e.mod, e.bs, e.bsz, e.funs, e.frf, e.hok, e.bare⟩

section
variable {X : Cx} {pins : List (Addr × Obj)} {σ : St} {H : Hp} {s s' : Shared}
/-- from a body: what a callee wants -/
theorem Inv.env0 (I : Inv X pins σ H s) : Env0 X.prog X.w X.K X.mg X.base X.A X.stack s H :=
  ⟨I.ok.frames, I.ok.mod, I.bs, Nat.le_trans I.ok.bsz I.sz, I.stack, I.stkFree, I.hok, I.bare⟩
/-- behind a call -/
theorem Inv.after {Q : VK} {u : Value} (I : Inv X pins σ H s) (h : CE X.stack X.prog X.w H s Q u s') : EP X pins σ Q u s' := by
  obtain ⟨v, H', os, bare, un, hok, r, q⟩ := h
  obtain ⟨hh, g, d, t, os'⟩ := s'
  obtain rfl : os' = s.os := os
  exact ⟨v, H', I.call (h' := hh) (g' := g) (d' := d) (t' := t) (ch := []) un hok bare (fun b z => absurd z (by simp)), r, q⟩
end

/-! ### calls -/
/-- f(..): the written arguments, then the defaults dvs; E: what is wanted of an exception -/
def tCall (sp : Sp) (dvs : List V) (E : XK) (t : TA) : TE := fun σ H Q => t σ H fun vs H1 => sp (vs ++ dvs) H1 Q E
/-- o.m(..) of an instance of the class at C -/
def tMeth (C : Addr) (m : Str) (sp : Sp) (dvs : List V) (E : XK) (ta : TE) (t : TA) : TE := fun σ H Q => ta σ H fun x H1 => ∃ a dx fs, x = .ref a ∧ H1 a = some (.ins C dx fs) ∧ fs.lookup m = none ∧
  t σ H1 fun vs H2 => sp (x :: (vs ++ dvs)) H2 Q E
/-- C(..): a new instance and its dict, then __init__ -/
def tMake (C : Addr) (sp : Sp) (dvs : List V) (E : XK) (t : TA) : TE := fun σ H Q => t σ H fun vs H1 => ∀ x dx, H1 x = none → H1 dx = none → dx ≠ x →
  sp (.ref x :: (vs ++ dvs)) (upd (upd H1 dx (.own x)) x (.ins C dx [])) (fun v H2 => v = .non ∧ Q (.ref x) H2) E

/-- how the parameters are bound: us the positional arguments, kw the keywords' values by name, ds the defaults that fill up -/
def Binds (K : PySem.W.Frag) (fd : FuncData) (ps : List Str) (ds : List Value) : Prop :=
  ∀ (s : Shared) (us : List Value), K.In s.heap → (us ++ ds).length = ps.length → BindsTo s fd ⟨us, []⟩ (ps.zip (us ++ ds))
/-- every parameter is given -/
theorem Binds.all {K : PySem.W.Frag} {fd : FuncData} {ps : List Str} (h : ∀ us : List Value, us.length = ps.length → bindArgs fd ⟨us, []⟩ = pure (ps.zip us)) : Binds K fd ps [] := fun s us _ hl => by
  rw [List.append_nil] at hl ⊢
  exact .of_eq (h us hl)

/-- an exception of a callee reaches what this body wants of exceptions -/
def Passes (CX : CXT) (X : Cx) (E : XK) : Prop := ∀ (pins : List (Addr × Obj)) (σ : St) (H : Hp) (s : Shared) (e : Value) (s' : Shared), Inv X pins σ H s → CX X.stack H s E e s' → X.xe e s'

section
variable {X : Cx} {CX : CXT} {k : Nat} {f C : Addr} {fd : FuncData} {ps : List Str} {sp : Sp} {dvs : List V} {ds : List Value} {E : XK} {x m : Str} {p pos apos : Pos} {e o : Expr} {es : List Expr} {ta : TE} {t : TA}

/-- the callee runs -/
theorem run_fn {pins : List (Addr × Obj)} {σ : St} {H : Hp} {s : Shared} {Q : VK} {us : List Value} {vs : List V} (F : FnOk X.prog X.w X.K X.mg X.base CX k f fd ps sp) (hr : Room k X.A) (hb : Binds X.K fd ps ds) (hd : Vals dvs ds) (hx : Passes CX X E)
    (I : Inv X pins σ H s) (r : Vals vs us) (h : sp (vs ++ dvs) H Q E) : wpAny (model X.prog X.w) X.A (call (.ref f) us) (EP X pins σ Q) X.xe s := by
  have r2 : Vals (vs ++ dvs) (us ++ ds) := r.append hd
  have hl : (us ++ ds).length = ps.length := by rw [← r2.length]; exact F.len _ _ _ _ h
  refine wpAny_call (codeAny_mono (F.run X.A X.stack s H ⟨us, []⟩ (us ++ ds) (vs ++ dvs) Q E hr I.env0 (hb s us I.kIn hl) r2 h) fun r s' hq => ?_)
  cases r with
  | error e => exact hx pins σ H s e s' I hq
  | ok fl =>
    cases fl with
    | ret u => exact I.after hq
    | next => exact False.elim hq
    | brk => exact False.elim hq
    | cont => exact False.elim hq

theorem pe_call (F : FnOk X.prog X.w X.K X.mg X.base CX k f fd ps sp) (hr : Room k X.A) (hg : Gl X x) (hm : X.mg x = some (.ref f)) (hk : PySem.W.keepIn X.K (.ref f) = true) (hb : Binds X.K fd ps ds) (hd : Vals dvs ds) (hx : Passes CX X E)
    (ha : PA X (e :: es) t) (hdb : (x == ("__debug__" : Str)) = false := by decide) (he : starEach (e :: es) X.env = (false, eval e X.env) :: starEach es X.env := by rfl) (hpl : (backTo pos (starEach es X.env)).any (·.1) = false := by rfl) :
    PE X (.Call (.Name x p) (e :: es) [] pos) (tCall sp dvs E t) := by
  intro pins s σ H Q I h
  refine wpAny_Call_Name_kw (ld_glob I hg hm ?_ hdb)
  refine PySem.W.callWith_K (h₀ := X.base) I.ok.mod.kin hk (thn (ha pos pins s σ H _ I h) fun us s1 ⟨vs, H1, I1, r, q⟩ => ⟨I1.kIn, ?_⟩) he hpl
  exact run_fn F hr hb hd hx I1 r q
theorem pe_call0 (F : FnOk X.prog X.w X.K X.mg X.base CX k f fd ps sp) (hr : Room k X.A) (hg : Gl X x) (hm : X.mg x = some (.ref f)) (hk : PySem.W.keepIn X.K (.ref f) = true) (hb : Binds X.K fd ps ds) (hd : Vals dvs ds) (hx : Passes CX X E)
    (hdb : (x == ("__debug__" : Str)) = false := by decide) : PE X (.Call (.Name x p) [] [] pos) (tCall sp dvs E tNil) := by
  intro pins s σ H Q I h
  refine wpAny_Call_Name_kw (ld_glob I hg hm ?_ hdb)
  exact PySem.W.callWith_K0 I.kIn hk (run_fn (us := []) F hr hb hd hx I .nil h)

/-- o.m(e, ..) -/
theorem pe_meth {pl : Sem Bool} (he : PE X o ta) (c : Cls X.K C) (hm : Meth X.K C m f) (F : FnOk X.prog X.w X.K X.mg X.base CX k f fd ps sp) (hr : Room k X.A) (hb : Binds X.K fd ps ds) (hd : Vals dvs ds) (hx : Passes CX X E) (ha : PA X (e :: es) t)
    (hst : starEach (e :: es) X.env = (false, eval e X.env) :: starEach es X.env := by rfl) (hpl : (backTo pos (starEach es X.env)).any (·.1) = false := by rfl)
    (ht : eval (.Call (.Attribute o m apos) (e :: es) [] pos) X.env = (do
      let ov ← eval o X.env
      standAt apos.atName
      let (f, first) ← holding [ov] (getMethod ov m pl)
      callWith pos f first (backTo pos (starEach (e :: es) X.env)) (backToKw pos (keywordEach [] X.env))) := by rfl) :
    PE X (.Call (.Attribute o m apos) (e :: es) [] pos) (tMeth C m sp dvs E ta t) := by
  intro pins s σ H Q I h
  refine PySem.W.methodCall_KW (pl := pl) (thn (he pins s σ H _ I h) fun u s1 ⟨x, H1, I1, rx, a, dx, fs, ex, ea, l, q⟩ => ?_) ht
  subst ex
  obtain rfl : u = Value.ref a := rx
  refine getmeth_ok I1 ea c hm l ?_
  refine PySem.W.callWith_K (first := [.ref a]) (h₀ := X.base) I.ok.mod.kin hm.kp (thn (ha pos pins s1 σ H1 _ I1 q) fun us s2 ⟨vs, H2, I2, r, q2⟩ => ⟨I2.kIn, ?_⟩) hst hpl
  exact run_fn (us := .ref a :: us) (vs := .ref a :: vs) F hr hb hd hx I2 (.cons rfl r) q2
/-- o.m() -/
theorem pe_meth0 {pl : Sem Bool} (he : PE X o ta) (c : Cls X.K C) (hm : Meth X.K C m f) (F : FnOk X.prog X.w X.K X.mg X.base CX k f fd ps sp) (hr : Room k X.A) (hb : Binds X.K fd ps ds) (hd : Vals dvs ds) (hx : Passes CX X E)
    (ht : eval (.Call (.Attribute o m apos) [] [] pos) X.env = (do
      let ov ← eval o X.env
      standAt apos.atName
      let (f, first) ← holding [ov] (getMethod ov m pl)
      callWith pos f first (backTo pos (starEach [] X.env)) (backToKw pos (keywordEach [] X.env))) := by rfl) :
    PE X (.Call (.Attribute o m apos) [] [] pos) (tMeth C m sp dvs E ta tNil) := by
  intro pins s σ H Q I h
  refine PySem.W.methodCall_KW (pl := pl) (thn (he pins s σ H _ I h) fun u s1 ⟨x, H1, I1, rx, a, dx, fs, ex, ea, l, q⟩ => ?_) ht
  subst ex
  obtain rfl : u = Value.ref a := rx
  refine getmeth_ok I1 ea c hm l ?_
  exact PySem.W.callWith_K0 (first := [.ref a]) I1.kIn hm.kp (run_fn (us := [.ref a]) (vs := [.ref a]) F hr hb hd hx I1 (.cons rfl .nil) q)

/-- what a class must have to be made -/
structure Mk (K : PySem.W.Frag) (C f : Addr) : Prop where
  makes : PySem.W.makesIn K C = true
  init : PySem.W.findIn K (.ref C) "__init__" = some (some (.ref f))
  fn : PySem.W.isFn K (.ref f) = true
  kp : PySem.W.keepIn K (.ref C) = true

theorem run_make {pins : List (Addr × Obj)} {σ : St} {H : Hp} {s : Shared} {Q : VK} {us : List Value} {vs : List V} (M : Mk X.K C f) (F : FnOk X.prog X.w X.K X.mg X.base CX k f fd ps sp) (hr : Room (k + 1) X.A) (hb : Binds X.K fd ps ds) (hd : Vals dvs ds)
    (hx : Passes CX X E) (I : Inv X pins σ H s) (r : Vals vs us)
    (h : ∀ x dx, H x = none → H dx = none → dx ≠ x → sp (.ref x :: (vs ++ dvs)) (upd (upd H dx (.own x)) x (.ins C dx [])) (fun v H2 => v = .non ∧ Q (.ref x) H2) E) :
    wpAny (model X.prog X.w) X.A (call (.ref C) us) (EP X pins σ Q) X.xe s := by
  have hq := h (s.heap.objs.size + 1) s.heap.objs.size (I.hok.fresh (Nat.le_succ _)) (I.hok.fresh (Nat.le_refl _)) (Nat.ne_of_lt (Nat.lt_succ_self _))
  have I2 := Inv.made (C := C) I
  have r2 : Vals (V.ref (s.heap.objs.size + 1) :: (vs ++ dvs)) (Value.ref (s.heap.objs.size + 1) :: (us ++ ds)) := .cons rfl (r.append hd)
  have hl : (Value.ref (s.heap.objs.size + 1) :: us ++ ds).length = ps.length := by
    have e := r2.length
    rw [F.len _ _ _ _ hq] at e
    exact e.symm
  refine wpAny_call (make_map (f := f) I.kIn M.makes M.init (beq_iff_eq.mp M.fn) (codeAny_mono (F.run _ X.stack _ _ ⟨Value.ref (s.heap.objs.size + 1) :: us, []⟩ (Value.ref (s.heap.objs.size + 1) :: (us ++ ds)) _ _ E (hr.make C us [])
    (I2.env0.make C us []) (hb _ (Value.ref (s.heap.objs.size + 1) :: us) I2.kIn hl) r2 hq) fun r s' hq' => ?_))
  cases r with
  | error e => exact hx pins σ _ _ e s' I2 hq'
  | ok fl =>
    cases fl with
    | ret u =>
      obtain ⟨v, H', I3, rv, ev, q3⟩ := I2.after hq'
      subst ev
      exact ⟨rv, ⟨V.ref (s.heap.objs.size + 1), H', I3, rfl, q3⟩⟩
    | next => exact False.elim hq'
    | brk => exact False.elim hq'
    | cont => exact False.elim hq'
theorem pe_make (M : Mk X.K C f) (F : FnOk X.prog X.w X.K X.mg X.base CX k f fd ps sp) (hr : Room (k + 1) X.A) (hg : Gl X x) (hm : X.mg x = some (.ref C)) (hb : Binds X.K fd ps ds) (hd : Vals dvs ds) (hx : Passes CX X E)
    (ha : PA X (e :: es) t) (hdb : (x == ("__debug__" : Str)) = false := by decide) (he : starEach (e :: es) X.env = (false, eval e X.env) :: starEach es X.env := by rfl) (hpl : (backTo pos (starEach es X.env)).any (·.1) = false := by rfl) :
    PE X (.Call (.Name x p) (e :: es) [] pos) (tMake C sp dvs E t) := by
  intro pins s σ H Q I h
  refine wpAny_Call_Name_kw (ld_glob I hg hm ?_ hdb)
  refine PySem.W.callWith_K (h₀ := X.base) I.ok.mod.kin M.kp (thn (ha pos pins s σ H _ I h) fun us s1 ⟨vs, H1, I1, r, q⟩ => ⟨I1.kIn, ?_⟩) he hpl
  exact run_make M F hr hb hd hx I1 r q
theorem pe_make0 (M : Mk X.K C f) (F : FnOk X.prog X.w X.K X.mg X.base CX k f fd ps sp) (hr : Room (k + 1) X.A) (hg : Gl X x) (hm : X.mg x = some (.ref C)) (hb : Binds X.K fd ps ds) (hd : Vals dvs ds) (hx : Passes CX X E)
    (hdb : (x == ("__debug__" : Str)) = false := by decide) : PE X (.Call (.Name x p) [] [] pos) (tMake C sp dvs E tNil) := by
  intro pins s σ H Q I h
  refine wpAny_Call_Name_kw (ld_glob I hg hm ?_ hdb)
  exact PySem.W.callWith_K0 I.kIn M.kp (run_make (us := []) M F hr hb hd hx I .nil h)
end

/-! ### keywords -/
/-- the values of the keywords, from the left -/
def PK (X : Cx) (kws : List Keyword) (t : TA) : Prop :=
  ∀ (pos : Pos) (pins : List (Addr × Obj)) (s : Shared) (σ : St) (H : Hp) (Q : List V → Hp → Prop), Inv X pins σ H s → t σ H Q → wpAny (model X.prog X.w) X.A (evalAll ((backToKw pos (keywordEach kws X.env)).map (·.2))) (AP X pins σ Q) X.xe s
section
variable {X : Cx} {CX : CXT} {k : Nat} {f C : Addr} {fd : FuncData} {ps ks : List Str} {sp : Sp} {E : XK} {x m : Str} {p pos apos kpos : Pos} {e o : Expr} {es : List Expr} {kws : List Keyword} {te ta : TE} {t tk : TA} {nm : Option Str}
theorem pk_nil : PK X [] tNil := fun _ _ _ _ H Q I h => wpAny_evalAll_nil ⟨[], H, I, .nil, h⟩
theorem pk_cons (ha : PE X e te) (hr : PK X kws t) : PK X (⟨nm, e, kpos⟩ :: kws) (tCons te t) := by
  intro pos pins s σ H Q I h
  show wpAny _ _ (evalAll ((do let v ← eval e X.env; standAt pos; pure v) :: (backToKw pos (keywordEach kws X.env)).map (·.2))) _ _ s
  refine wpAny_evalAll_cons (wpAny_bind (thn (ha pins s σ H _ I h) fun u s1 ⟨x, H1, I1, r1, q1⟩ => wpAny_bind (wpAny_standAt (wpAny_pure ?_))))
  exact thn (hr pos pins s1 σ H1 _ I1 q1) fun us s2 ⟨xs, H2, I2, r2, q2⟩ => ⟨x :: xs, H2, I2, .cons r1 r2, q2⟩

/-- how a call with keywords binds: g puts the positional values us and the keywords' values ws (names ks) in the parameters' order, defaults among them -/
structure KBinds (K : PySem.W.Frag) (fd : FuncData) (ps ks : List Str) (g : List Value → List Value → List Value) (gV : List V → List V → List V) : Prop where
  to : ∀ (s : Shared) (us ws : List Value), K.In s.heap → (g us ws).length = ps.length → BindsTo s fd ⟨us, ks.zip ws⟩ (ps.zip (g us ws))
  rel : ∀ {vs : List V} {us : List Value} {zs : List V} {ws : List Value}, Vals vs us → Vals zs ws → Vals (gV vs zs) (g us ws)
def tCallK (sp : Sp) (gV : List V → List V → List V) (E : XK) (t tk : TA) : TE := fun σ H Q => t σ H fun vs H1 => tk σ H1 fun zs H2 => sp (gV vs zs) H2 Q E
variable {g : List Value → List Value → List Value} {gV : List V → List V → List V}
theorem run_fnk {pins : List (Addr × Obj)} {σ : St} {H : Hp} {s : Shared} {Q : VK} {us ws : List Value} {vs zs : List V} (F : FnOk X.prog X.w X.K X.mg X.base CX k f fd ps sp) (hr : Room k X.A) (hb : KBinds X.K fd ps ks g gV) (hx : Passes CX X E)
    (I : Inv X pins σ H s) (r : Vals vs us) (rz : Vals zs ws) (h : sp (gV vs zs) H Q E) : wpAny (model X.prog X.w) X.A (call (.ref f) us (ks.zip ws)) (EP X pins σ Q) X.xe s := by
  have r2 := hb.rel r rz
  have hl : (g us ws).length = ps.length := by rw [← r2.length]; exact F.len _ _ _ _ h
  refine wpAny_call (codeAny_mono (F.run X.A X.stack s H ⟨us, ks.zip ws⟩ (g us ws) (gV vs zs) Q E hr I.env0 (hb.to s us ws I.kIn hl) r2 h) fun r s' hq => ?_)
  cases r with
  | error e => exact hx pins σ H s e s' I hq
  | ok fl =>
    cases fl with
    | ret u => exact I.after hq
    | next => exact False.elim hq
    | brk => exact False.elim hq
    | cont => exact False.elim hq
/-- f(e, .., k = v, ..) -/
theorem pe_callK (F : FnOk X.prog X.w X.K X.mg X.base CX k f fd ps sp) (hr : Room k X.A) (hg : Gl X x) (hm : X.mg x = some (.ref f)) (hk : PySem.W.keepIn X.K (.ref f) = true) (hb : KBinds X.K fd ps ks g gV) (hx : Passes CX X E)
    (ha : PA X (e :: es) t) (hkw : PK X kws tk) (hall : (backToKw pos (keywordEach kws X.env)).all (·.1.isSome) = true := by rfl) (hks : (backToKw pos (keywordEach kws X.env)).filterMap (·.1) = ks := by rfl)
    (hdb : (x == ("__debug__" : Str)) = false := by decide) (he : starEach (e :: es) X.env = (false, eval e X.env) :: starEach es X.env := by rfl)
    (hpl : ((backTo pos (starEach (e :: es) X.env)).any (·.1) || (backToKw pos (keywordEach kws X.env)).any (·.1.isNone)) = false := by rfl) :
    PE X (.Call (.Name x p) (e :: es) kws pos) (tCallK sp gV E t tk) := by
  intro pins s σ H Q I h
  refine wpAny_Call_Name_kw (ld_glob I hg hm ?_ hdb)
  refine PySem.W.callWith_KW (h₀ := X.base) I.ok.mod.kin hk hall (thn (ha pos pins s σ H _ I h) fun us s1 ⟨vs, H1, I1, r, q⟩ => ?_) hpl he
  refine thn (hkw pos pins s1 σ H1 _ I1 q) fun ws s2 ⟨zs, H2, I2, rz, q2⟩ => ⟨I2.kIn, ?_⟩
  rw [hks]
  exact run_fnk F hr hb hx I2 r rz q2
end

/-! ### a def's body keeps its promise -/
/-- names: the parameters first -/
structure FnScope (N P : List Str) (sc : Scope) : Prop where
  kind : sc.kind = .function
  co : sc.isCoroutine = false
  gen : sc.isGenerator = false
  nd : N.Nodup
  pre : N.take P.length = P
  par : ∀ x ∈ P, sc.names.lookup x = some .local ∨ sc.names.lookup x = some .cell
  nofree : ∀ y ∈ sc.names, y.2 ≠ .free

theorem bindL_out {kindOf : Str → Option NameKind} {x : Str} : ∀ {binds : List (Str × Value)} {m : Str → Option Value}, (∀ v, (x, v) ∉ binds) → bindL kindOf binds m x = m x
  | [], _, _ => rfl
  | (n, v) :: r, m, h => by
    unfold bindL
    rw [bindL_out fun w hw => h w (List.mem_cons_of_mem _ hw)]
    split
    · have : x ≠ n := by rintro rfl; exact h v List.mem_cons_self
      simp [this]
    · rfl
theorem bindC_out {kindOf : Str → Option NameKind} {x : Str} : ∀ {binds : List (Str × Value)} {m : Str → Option Value}, (∀ v, (x, v) ∉ binds) → bindC kindOf binds m x = m x
  | [], _, _ => rfl
  | (n, v) :: r, m, h => by
    unfold bindC
    rw [bindC_out fun w hw => h w (List.mem_cons_of_mem _ hw)]
    split
    · rfl
    · have : x ≠ n := by rintro rfl; exact h v List.mem_cons_self
      simp [this]
theorem bindL_get {kindOf : Str → Option NameKind} {x : Str} {v : Value} : ∀ {P : List Str} {vs : List Value} {i : Nat} {m : Str → Option Value}, P.Nodup → P[i]? = some x → vs[i]? = some v → kindOf x = some .local →
    bindL kindOf (P.zip vs) m x = some v
  | [], _, _, _, _, h, _, _ => by simp at h
  | _ :: _, [], _, _, _, _, h, _ => by simp at h
  | p :: P, w :: vs, 0, m, nd, h1, h2, hk => by
    simp at h1 h2; subst h1; subst h2
    show bindL kindOf ((p, w) :: P.zip vs) m p = _
    unfold bindL
    rw [bindL_out fun v hv => (List.nodup_cons.mp nd).1 (List.of_mem_zip hv).1, if_pos hk]
    simp
  | p :: P, w :: vs, i + 1, m, nd, h1, h2, hk => by
    show bindL kindOf ((p, w) :: P.zip vs) m x = _
    unfold bindL
    exact bindL_get (i := i) (List.nodup_cons.mp nd).2 (by simpa using h1) (by simpa using h2) hk
theorem bindC_get {kindOf : Str → Option NameKind} {x : Str} {v : Value} : ∀ {P : List Str} {vs : List Value} {i : Nat} {m : Str → Option Value}, P.Nodup → P[i]? = some x → vs[i]? = some v → kindOf x ≠ some .local →
    bindC kindOf (P.zip vs) m x = some v
  | [], _, _, _, _, h, _, _ => by simp at h
  | _ :: _, [], _, _, _, _, h, _ => by simp at h
  | p :: P, w :: vs, 0, m, nd, h1, h2, hk => by
    simp at h1 h2; subst h1; subst h2
    show bindC kindOf ((p, w) :: P.zip vs) m p = _
    unfold bindC
    rw [bindC_out fun v hv => (List.nodup_cons.mp nd).1 (List.of_mem_zip hv).1, if_neg hk]
    simp
  | p :: P, w :: vs, i + 1, m, nd, h1, h2, hk => by
    show bindC kindOf ((p, w) :: P.zip vs) m x = _
    unfold bindC
    exact bindC_get (i := i) (List.nodup_cons.mp nd).2 (by simpa using h1) (by simpa using h2) hk

/-- the names' values at the entry -/
def start (N : List Str) (vs : List V) : St := vs.map some ++ List.replicate (N.length - vs.length) none

/-- the context of a def's body, at its entry; an exception leaves the frame, then lies as CX says -/
def cxOf (CX : CXT) (P : Program) (w : World) (K : PySem.W.Frag) (mg : Str → Option Value) (base : Heap) (N : List Str) (qual : Str) (scope : Scope) (f : Addr) (cd : Value) (A : Around) (outer : List Env) (s : Shared) (H : Hp) (E : XK) : Cx where
  prog := P
  w := w
  K := K
  mg := mg
  base := base
  A := A.deeper (envOfC qual scope s.heap.objs.size f cd)
  N := N
  s₀ := s
  H₀ := H
  env := envOfC qual scope s.heap.objs.size f cd
  outer := outer
  stack := envOfC qual scope s.heap.objs.size f cd :: outer
  ex := []
  calm := true
  fn := fun _ => true
  pn := []
  xe := fun e s' => wpAny (model P w) (A.deeper (envOfC qual scope s.heap.objs.size f cd)) (leaving (envOfC qual scope s.heap.objs.size f cd) e) (fun _ s'' => CX outer H s E e s'') (fun e' s'' => CX outer H s E e' s'') s'

theorem cell_has {sc : Scope} {n : Nat} {x : Str} (h : sc.names.lookup x = some .cell) : ∃ c, (cellsFrom n sc.names []).lookup x = some c := by
  have q := PySem.W.cellsFrom_some sc.names n [] (.inl h)
  exact Option.isSome_iff_exists.mp q

theorem inv_start {CX : CXT} {P : Program} {w : World} {K : PySem.W.Frag} {mg : Str → Option Value} {base : Heap} {N ps : List Str} {qual : Str} {scope : Scope} {f : Addr} {cd : Value} {A : Around} {outer : List Env} {s s1 : Shared} {H : Hp} {E : XK} {us : List Value} {vs : List V}
    (S : FnScope N ps scope) (hd : A.handled = none) (e0 : Env0 P w K mg base A outer s H) (hl : vs.length = ps.length) (r : Vals vs us)
    (x : InCallC s s.heap.objs.size (bindL (envOfC qual scope s.heap.objs.size f cd).kindOf (ps.zip us) fun _ => none) (cellsFrom (s.heap.objs.size + 1) scope.names []) (bindC (envOfC qual scope s.heap.objs.size f cd).kindOf (ps.zip us) fun _ => none) s1) :
    Inv (cxOf CX P w K mg base N qual scope f cd A outer s H E) [] (start N vs) H s1 := by
  have hpl : ps.length ≤ N.length := by have := congrArg List.length S.pre; rw [List.length_take] at this; omega
  obtain ⟨h1, tk, rfl, hk⟩ := x.done
  have noA : ∀ b : Addr, b ∉ (cxOf CX P w K mg base N qual scope f cd A outer s H E).ex := fun b z => absurd (show b ∈ ([] : List Addr) from z) (by simp)
  refine ⟨⟨e0.mod, S.kind, rfl, rfl, Nat.le_refl _, fun y z c h1 h2 => ?_, fun y hy => ?_, fun y c _ h => ?_, fun _ => hd, Around.frames_deeper e0.frames, .inr ⟨rfl, rfl⟩, fun b z => absurd z (noA b), e0.bs, e0.bsz, fun b _ _ => noA b, fun b z => absurd z (noA b), e0.funs, e0.frf⟩,
    rfl, e0.bare, Un.kept hk, ⟨_, x.toInCall.ns, fun i y v h1 h2 h3 => ?_⟩, fun y c h => ⟨_, x.cell y c h⟩, e0.hok.fresh (Nat.le_refl _), fun y c h => ?_, fun p hp => absurd (show p ∈ ([] : List (Addr × Obj)) from hp) (by simp), e0.hok.kept hk, ?_⟩
  · exact name_of_addr x.apart (PySem.mem_of_lookup h1) (PySem.mem_of_lookup h2)
  · have hy : scope.names.lookup y = some .cell ∨ scope.names.lookup y = some .free := hy
    rcases hy with hy | hy
    · exact cell_has hy
    · exact absurd rfl (S.nofree _ (PySem.mem_of_lookup hy))
  · exact Nat.le_of_lt (x.above y c (PySem.mem_of_lookup h))
  · have hi : i < vs.length := by
      unfold start at h2
      by_cases hi : i < vs.length
      · exact hi
      · rw [List.getElem?_append_right (by simpa using hi)] at h2
        rw [List.getElem?_replicate] at h2
        split at h2 <;> cases h2
    have ha : vs[i]? = some v := by
      unfold start at h2
      rw [List.getElem?_append_left (by simpa using hi), List.getElem?_map] at h2
      cases e : vs[i]? with
      | none => rw [e] at h2; cases h2
      | some a => rw [e] at h2; cases h2; rfl
    obtain ⟨u, hu, rv⟩ := r.get ha
    have hp : ps[i]? = some y := by
      rw [← S.pre, List.getElem?_take_of_lt (by omega)]; exact h1
    have ndP : ps.Nodup := by rw [← S.pre]; exact S.nd.sublist (List.take_sublist _ _)
    refine ⟨u, rv, ?_⟩
    rcases S.par y (List.mem_of_getElem? hp) with k | k
    · exact .inl ⟨k, bindL_get ndP hp hu k⟩
    · obtain ⟨c, e⟩ := cell_has (n := s.heap.objs.size + 1) k
      refine .inr ⟨.inl k, c, e, ?_⟩
      have q := x.cell y c e
      rw [bindC_get ndP hp hu (by show scope.names.lookup y ≠ _; rw [k]; decide)] at q
      exact q
  · exact e0.hok.fresh (Nat.le_of_lt (x.above y c (PySem.mem_of_lookup h)))
  · unfold start
    show _ = N.length
    rw [List.length_append, List.length_map, List.length_replicate]
    omega

/-- THE RULE: a def (or a method) of the text, by its body. The body's reading t is chosen for each entry; it is run at the parameters' values -/
theorem fn_of {CX : CXT} {P : Program} {w : World} {K : PySem.W.Frag} {mg : Str → Option Value} {base : Heap} {k : Nat} {f : Addr} {name qual : Str} {params : Arguments} {body : List Stmt} {scope : Scope} {dV kV doc pm cdv ct oc : Value} {an od : Option Addr}
    {osl : Array (Option Value)} {N ps : List Str} {sp : Sp} (lk : K.lookup f = some ⟨oc, od, .func (PySem.W.fnOf name qual params body scope dV kV doc pm an cdv ct), osl⟩) (hcd : PySem.W.codeIn K cdv qual = true) (S : FnScope N ps scope)
    (len : ∀ vs H Q E, sp vs H Q E → vs.length = ps.length)
    (hbody : ∀ (A : Around) (outer : List Env) (s : Shared) (H : Hp) (vs : List V) (Q : VK) (E : XK), Room k (A.deeper (envOfC qual scope s.heap.objs.size f cdv)) → sp vs H Q E →
      ∃ t, PSs (cxOf CX P w K mg base N qual scope f cdv A outer s H E) body t ∧ t { nx := fun _ H' => Q .non H', rt := Q } (start N vs) H) :
    FnOk P w K mg base CX (k + 1) f (PySem.W.fnOf name qual params body scope dV kV doc pm an cdv ct) ps sp := by
  refine ⟨len, fun A outer s H args us vs Q E hr e0 hb r hsp => ?_⟩
  have hl := len _ _ _ _ hsp
  have KX : K.In s.heap := e0.mod.kin.keeps fun b o e => (e0.bs b o e).1
  have lim : s.heap.NoLimit := e0.mod.nolimit.keeps fun b o e => (e0.bs b o e).1
  have hkind : ∀ y ∈ ps.zip us, scope.names.lookup y.1 = some .local ∨ (scope.names.lookup y.1 = some .cell ∧ ((cellsFrom (s.heap.objs.size + 1) scope.names []).lookup y.1).isSome = true) := fun ⟨n, v⟩ hy => by
    rcases S.par n (List.of_mem_zip hy).1 with q | q
    · exact .inl q
    · exact .inr ⟨q, PySem.W.cellsFrom_some _ _ _ (.inl q)⟩
  refine codeAny_call_function hr.depth (KX _ _ lk) rfl S.co S.gen rfl (PySem.W.codeRec_of KX hcd) (hb _ _ _ _ ?_)
  refine wpAny_newFunctionEnv_cells S.kind hkind fun env he s1 x => ?_
  subst he
  refine ⟨lim.keeps x.toInCall.keep, codeAny_func ?_⟩
  obtain ⟨t, ht, hq⟩ := hbody A outer s H vs Q E (hr.deeper _) hsp
  have I : Inv (cxOf CX P w K mg base N qual scope f cdv A outer s H E) [] (start N vs) H s1 := inv_start S hr.hd e0 hl r x
  refine wpAny_mono (ht [] s1 (start N vs) H _ I hq) (fun fl s' hs => ?_) fun e s' hs => hs
  have fin : ∀ {σ' : St} {H' : Hp} {v : V} {u : Value}, Inv (cxOf CX P w K mg base N qual scope f cdv A outer s H E) [] σ' H' s' → RelV v u → Q v H' → CE outer P w H s Q u s' :=
    fun {σ' H' v u} J rv q => ⟨v, H', J.os, J.bare, J.base, J.hok, rv, q⟩
  cases fl with
  | ret u =>
    obtain ⟨v, σ', H', J, rv, q⟩ := hs
    exact fin J rv q
  | next =>
    obtain ⟨σ', H', J, q⟩ := hs
    exact fin (v := V.non) (u := Value.none) J rfl q
  | brk =>
    obtain ⟨_, _, _, q⟩ := hs
    exact False.elim q
  | cont =>
    obtain ⟨_, _, _, q⟩ := hs
    exact False.elim q
end L2

namespace L2
open PySem PySem.Spec PyProof.Rows
section
variable {X : Cx} {x : Str} {p pos : Pos} {e : Expr} {es : List Expr} {t : TA} {id T : String} {r : List V → Hp → VK → Prop}

def tCB (r : List V → Hp → VK → Prop) (t : TA) : TE := fun σ H Q => t σ H fun vs H1 => r vs H1 Q
/-- f(e, ..), f a built-in function -/
theorem pe_callB (hc : CallR X (.builtin id) r) (hg : Gl X x) (hm : X.mg x = none) (hv : bootBuiltins x = some (.builtin id)) (ha : PA X (e :: es) t) (hn : x ≠ "__name__" := by decide) (hdb : (x == ("__debug__" : Str)) = false := by decide)
    (he : starEach (e :: es) X.env = (false, eval e X.env) :: starEach es X.env := by rfl) (hpl : (backTo pos (starEach es X.env)).any (·.1) = false := by rfl) : PE X (.Call (.Name x p) (e :: es) [] pos) (tCB r t) := by
  intro pins s σ H Q I h
  refine wpAny_Call_Name_kw (ld_blt I hg hm hv ?_ hn hdb)
  exact PyProof.Rows.callWith_builtin1 (thn (ha pos pins s σ H _ I h) fun us s1 ⟨vs, H1, I1, r1, q1⟩ => hc pins s1 σ H1 vs us Q I1 r1 q1) he hpl
/-- T(e, ..), T a built-in type -/
theorem pe_callTy (hc : CallR X (.type T) r) (hg : Gl X x) (hm : X.mg x = none) (hv : bootBuiltins x = some (.type T)) (ha : PA X (e :: es) t) (hn : x ≠ "__name__" := by decide) (hdb : (x == ("__debug__" : Str)) = false := by decide)
    (he : starEach (e :: es) X.env = (false, eval e X.env) :: starEach es X.env := by rfl) (hpl : (backTo pos (starEach es X.env)).any (·.1) = false := by rfl) : PE X (.Call (.Name x p) (e :: es) [] pos) (tCB r t) := by
  intro pins s σ H Q I h
  refine wpAny_Call_Name_kw (ld_blt I hg hm hv ?_ hn hdb)
  exact PyProof.Rows.callWith_type1 (thn (ha pos pins s σ H _ I h) fun us s1 ⟨vs, H1, I1, r1, q1⟩ => hc pins s1 σ H1 vs us Q I1 r1 q1) he hpl
/-- T() -/
theorem pe_callTy0 (hc : CallR X (.type T) r) (hg : Gl X x) (hm : X.mg x = none) (hv : bootBuiltins x = some (.type T)) (hn : x ≠ "__name__" := by decide) (hdb : (x == ("__debug__" : Str)) = false := by decide) :
    PE X (.Call (.Name x p) [] [] pos) (tCB r tNil) := by
  intro pins s σ H Q I h
  refine wpAny_Call_Name_kw (ld_blt I hg hm hv ?_ hn hdb)
  exact PyProof.Rows.callWith_type0 (hc pins s σ H [] [] Q I .nil h)
end
end L2

namespace HT
open PySem PyProof.Rows

/-- t < u of tuples of ints -/
def lexLt : List Int → List Int → Bool
  | [], [] => false
  | [], _ :: _ => true
  | _ :: _, [] => false
  | x :: xs, y :: ys => if x = y then lexLt xs ys else decide (x < y)
theorem lexLt_cons (x y : Int) (xs ys : List Int) : lexLt (x :: xs) (y :: ys) = if x = y then lexLt xs ys else decide (x < y) := rfl
theorem lexLt_nil_nil : lexLt [] [] = false := rfl
theorem lexLt_nil_cons (y : Int) (ys : List Int) : lexLt [] (y :: ys) = true := rfl
theorem lexLt_cons_nil (x : Int) (xs : List Int) : lexLt (x :: xs) [] = false := rfl

theorem eqAt_int (A : Around) (s : Shared) (a : Int) (t : Tok) (c : Int) (u : Tok) : ∃ e, SeqAt.EqAt A s (.int a t) (.int c u) e ∧ (e = true ↔ a = c) :=
  ⟨(a == c), SeqAt.EqAt.int_int a t c u, by simp⟩
theorem rcLt_int (A : Around) (s : Shared) (a : Int) (t : Tok) (c : Int) (u : Tok) (prog : Program) (w : World) (E : Value → Shared → Prop) (Q : Value → Shared → Prop) (h : Q (.bool (decide (a < c))) s) :
    wpAny (model prog w) A (richCompare .Lt (.int a t) (.int c u)) Q E s :=
  (PyProof.Rows.lt_int h : wpAny (model prog w) A (compareOp .Lt (.int a t) (.int c u)) Q E s)

section
open PySem.SeqAt
open PySem.AutoSeq1 (wpAny_loadPart')
open PySem.MeetsSeq PySem.MeetsSeq2 PySem.MeetsSeq3

theorem tuple_lt_ints (l b : Addr) (items items2 : Array Value) (n n2 : Nat) (dd dd2 : Option Addr) (sl sl2 : Array (Option Value)) (ns ms : List Int) (hi : IntsAre items.toList ns) (hj : IntsAre items2.toList ms) :
    Meets (Builtin.«tuple.__lt__» ⟨[.ref l, .ref b], []⟩)
      (fun _ R s => s.heap.get? l = some { cls := .type "tuple", dict := dd, data := .seq items n, slots := sl } ∧ s.heap.get? b = some { cls := .type "tuple", dict := dd2, data := .seq items2 n2, slots := sl2 } ∧
        R (.ok (.ret (.bool (lexLt ns ms)))) s) :=
  .of_wp fun prog w A R s h => by
    obtain ⟨hp, g, d, tk, os⟩ := s; obtain ⟨hl, hb, h⟩ := h
    have f2 := AutoSeq1.sub_tuple_tuple
    have z1 : items.size = ns.length := by rw [← hi.length]; simp
    have z2 : items2.size = ms.length := by rw [← hj.length]; simp
    wp_walk using wpAny_loadPart' hl, wpAny_loadPart' hb, wpAny_forIn_list _ (fun rest b s' => b.1 = none ∧ s' = ⟨hp, g, d, tk, os⟩ ∧ ∃ (vs ws : List Value) (ns' ms' : List Int), rest = vs.zip ws ∧
      IntsAre vs ns' ∧ IntsAre ws ms' ∧ ns'.length + items2.size = ms'.length + items.size ∧ R (.ok (.ret (.bool (lexLt ns' ms')))) ⟨hp, g, d, tk, os⟩) _
    case turn =>
      rintro ⟨y, x⟩ rest b s' ⟨hb', rfl, vs, ws, ns', ms', hz, hvi, hwi, hlen, hR⟩
      cases hvi with
      | nil => rw [List.zip_nil_left] at hz; cases hz
      | cons a t hvi' =>
        cases hwi with
        | nil => rw [List.zip_nil_right] at hz; cases hz
        | cons c u hwi' =>
          rw [List.zip_cons_cons] at hz
          injection hz with hyx hrest
          injection hyx with hy hx
          subst hy hx
          rw [lexLt_cons] at hR
          simp only [List.length_cons] at hlen
          obtain ⟨e, he, hiff⟩ := eqAt_int A.in1 ⟨hp, g, d, tk, os⟩ a t c u
          refine wpAny_bind (he prog w _ _ ?_)
          cases e with
          | true =>
            rw [if_pos (hiff.mp rfl)] at hR
            wp_walk
            exact ⟨rfl, rfl, _, _, _, _, hrest, hvi', hwi', by omega, hR⟩
          | false =>
            rw [if_neg (fun q => absurd (hiff.mpr q) Bool.false_ne_true)] at hR
            have hri := rcLt_int A.in1 ⟨hp, g, d, tk, os⟩ a t c u prog w
            wp_walk using hri
            exact ⟨_, rfl, by simpa using hR⟩
    case fin =>
      rintro ⟨b1, b2⟩ s' ⟨hb', rfl, vs, ws, ns', ms', hz, hvi, hwi, hlen, hR⟩
      simp only at hb'
      subst hb'
      have hv : lexLt ns' ms' = decide (items.size < items2.size) := by
        cases hvi with
        | nil =>
          cases hwi with
          | nil =>
            simp only [List.length_nil] at hlen
            rw [lexLt_nil_nil]
            exact (decide_eq_false (by omega)).symm
          | cons c u hw =>
            simp only [List.length_nil, List.length_cons] at hlen
            rw [lexLt_nil_cons]
            exact (decide_eq_true (by omega)).symm
        | cons a t hv =>
          cases hwi with
          | nil =>
            simp only [List.length_nil, List.length_cons] at hlen
            rw [lexLt_cons_nil]
            exact (decide_eq_false (by omega)).symm
          | cons c u hw =>
            rw [List.zip_cons_cons] at hz
            cases hz
      rw [hv] at hR
      wp_walk
      exact ⟨_, rfl, by simpa [Builtin.Tuple.tupleCompareSizes] using hR⟩
    case h =>
      exact ⟨rfl, rfl, items.toList, items2.toList, ns, ms, rfl, hi, hj, by omega, h⟩
end

section
variable {prog : Program} {w : World} {A : Around} {E : Value → Shared → Prop} {s : Shared}

theorem lt_tupInts {l b : Addr} {items items2 : Array Value} {ns ms : List Int} {Q : Value → Shared → Prop} (hl : IsTup s.heap l items) (hb : IsTup s.heap b items2) (hi : IntsAre items.toList ns) (hj : IntsAre items2.toList ms)
    (hu : A.units < cLine) (h : Q (.bool (lexLt ns ms)) s) : wpAny (model prog w) A (compareOp .Lt (.ref l) (.ref b)) Q E s := by
  obtain ⟨⟨cls, dd, data, sl⟩, ho, hc, n, hd⟩ := id hl
  obtain ⟨⟨cls2, dd2, data2, sl2⟩, ho2, hc2, n2, hd2⟩ := id hb
  simp only at hc hd hc2 hd2
  subst hc hd hc2 hd2
  exact richCompare_meets_room (op := .Lt) ⟨_, ho, rfl⟩ ⟨_, ho2, rfl⟩ PySem.F.slot_tuple_lt PySem.F.entry_tuple_lt (PySem.F.args_tuple_lt_2 _ _) (tuple_lt_ints l b items items2 n n2 dd dd2 sl sl2 ns ms hi hj)
    ⟨ho, ho2, show Value.bool (lexLt ns ms) ≠ Value.notImplemented ∧ Q (.bool (lexLt ns ms)) s from ⟨(fun x => nomatch x), h⟩⟩ hu

/-- t + u, t not empty -/
theorem cat_tup {t b : Addr} {vs ws : List Value} {Q : Value → Shared → Prop} (ht : IsTup s.heap t vs.toArray) (hb : IsTup s.heap b ws.toArray) (hv : vs ≠ [])
    (h1 : ws = [] → Q (.ref t) s) (h2 : ws ≠ [] → Q (.ref s.heap.objs.size) { s with heap := s.heap.push { cls := .type "tuple", data := .seq (vs ++ ws).toArray } })
    (hsz : vs.length + ws.length ≤ sizeLine) : wpAny (model prog w) A (binaryOp .Add (.ref t) (.ref b)) Q E s := by
  obtain ⟨⟨cls, dd, data, sl⟩, ho, hc, n, hd⟩ := id ht
  obtain ⟨⟨cls2, dd2, data2, sl2⟩, ho2, hc2, n2, hd2⟩ := id hb
  simp only at hc hd hc2 hd2
  subst hc hd hc2 hd2
  have e : vs.toArray ++ ws.toArray = (vs ++ ws).toArray := by simp
  by_cases hw : ws = []
  · exact concat_meets ⟨_, ho, rfl⟩ ⟨_, ho2, rfl⟩ noFill_tuple_add seq_tuple_add PySem.F.slot_tuple_add PySem.F.entry_tuple_add (PySem.F.args_tuple_add_2 _ _)
      (tuple_addW1 t b vs.toArray ws.toArray n n2 dd dd2 sl sl2 (by simpa using hv) (by simp [hw])) ⟨ho, ho2, h1 hw⟩
  · refine concat_meets ⟨_, ho, rfl⟩ ⟨_, ho2, rfl⟩ noFill_tuple_add seq_tuple_add PySem.F.slot_tuple_add PySem.F.entry_tuple_add (PySem.F.args_tuple_add_2 _ _)
      (tuple_addW2 t b vs.toArray ws.toArray n n2 dd dd2 sl sl2 (by simpa using hv) (by simpa using hw) (by rw [List.size_toArray, List.size_toArray]; exact hsz)) ⟨ho, ho2, ?_⟩
    rw [e]
    exact h2 hw

/-! ### t[a:b], not the whole -/
/-- a slice's bound as a place among n (d where it is left out) -/
def sIx (n d : Nat) : Option Int → Nat
  | none => d
  | some v => if v < 0 then (v + (n : Int)).toNat else min v.toNat n
theorem sIx_none (n d : Nat) : sIx n d none = d := rfl
theorem sIx_nat (n d k : Nat) : sIx n d (some (k : Int)) = min k n := by
  show (if (k : Int) < 0 then ((k : Int) + (n : Int)).toNat else min (k : Int).toNat n) = min k n
  rw [if_neg (by omega), Int.toNat_natCast]
theorem sIx_le (n d : Nat) (hd : d ≤ n) (o : Option Int) : sIx n d o ≤ n := by
  cases o with
  | none => exact hd
  | some v =>
    show (if v < 0 then (v + (n : Int)).toNat else min v.toNat n) ≤ n
    by_cases hv : v < 0
    · rw [if_pos hv]; omega
    · rw [if_neg hv]; exact Nat.min_le_right _ _
theorem clip_eq (v : Int) (n d : Nat) : (if v < 0 then max (v + (n : Int)) 0 else min v (n : Int)) = ((sIx n d (some v) : Nat) : Int) := by
  show (if v < 0 then max (v + (n : Int)) 0 else min v (n : Int)) = (((if v < 0 then (v + (n : Int)).toNat else min v.toNat n) : Nat) : Int)
  by_cases hv : v < 0
  · simp only [if_pos hv]; omega
  · simp only [if_neg hv]; omega
theorem adjust_gen (lo hi : Option Int) (n : Nat) : Builtin.Slice.sliceAdjust lo hi 1 (n : Int) = (((sIx n 0 lo : Nat) : Int), ((sIx n n hi : Nat) : Int)) := by
  have h1 : ¬ ((1 : Int) < 0) := by omega
  unfold Builtin.Slice.sliceAdjust
  simp only [h1, if_false]
  refine Prod.ext ?_ ?_
  · cases lo with
    | none => rfl
    | some v => exact clip_eq v n 0
  · cases hi with
    | none => rfl
    | some v => exact clip_eq v n n
theorem places_gen (i j : Nat) : Builtin.Slice.slicePlaces (i : Int) (j : Int) 1 = j - i := by
  unfold Builtin.Slice.slicePlaces
  have h1 : (1 : Int) > 0 := by omega
  simp only [h1, if_true, Int.ediv_one]
  split <;> omega
theorem slicePart_ {v : Value} {o : Option Int} {Q : Option Int → Shared → Prop} (p : IsPart v o) (h : Q o s) : wpAny (model prog w) A (Builtin.Slice.slicePartIndex v) Q E s := by
  cases p with
  | none => exact slicePart_none h
  | int i t => exact slicePart_int h
theorem sliceApplied_gen {sl : Addr} {vl vu : Value} {lo hi : Option Int} {n : Nat} {Q : Int × Int × Nat → Shared → Prop} (hs : s.heap.IsSliceOf sl vl vu .none) (pl : IsPart vl lo) (pu : IsPart vu hi)
    (h : Q (((sIx n 0 lo : Nat) : Int), 1, sIx n n hi - sIx n 0 lo) s) : wpAny (model prog w) A (Builtin.Slice.sliceApplied (.ref sl) (pure (n : Int))) Q E s := by
  obtain ⟨os, hos, hcs, hds⟩ := id hs
  unfold Builtin.Slice.sliceApplied Builtin.Slice.sliceFields
  refine wpAny_bind (wpAny_bind (wpAny_field hos hds (x := vl) rfl (wpAny_bind (wpAny_field hos hds (x := vu) rfl (wpAny_bind (wpAny_field hos hds (x := .none) rfl (wpAny_pure ?_)))))))
  refine wpAny_bind (slicePart_none ?_)
  show wpAny _ _ (if ((1 : Int) == 0) = true then _ else _) _ _ s
  rw [if_neg (by decide)]
  refine wpAny_bind (slicePart_ pl (wpAny_bind (slicePart_ pu (wpAny_bind (wpAny_pure ?_)))))
  show wpAny _ _ (match Builtin.Slice.sliceAdjust lo hi 1 (n : Int) with | (lo, hi) => pure (lo, (1 : Int), Builtin.Slice.slicePlaces lo hi 1)) _ _ s
  rw [adjust_gen lo hi n]
  show wpAny _ _ (pure (((sIx n 0 lo : Nat) : Int), (1 : Int), Builtin.Slice.slicePlaces ((sIx n 0 lo : Nat) : Int) ((sIx n n hi : Nat) : Int) 1)) _ _ s
  rw [places_gen]
  exact wpAny_pure h
theorem pick_gen (xs : Array Value) (i k : Nat) : ((List.range k).filterMap fun (m : Nat) => xs[((i : Int) + (m : Int) * 1).toNat]?).toArray = ((xs.toList.drop i).take k).toArray := by
  have e : (fun (m : Nat) => xs[((i : Int) + (m : Int) * 1).toNat]?) = fun m => xs[i + m]? := by
    funext m
    have : ((i : Int) + (m : Int) * 1).toNat = i + m := by omega
    rw [this]
  rw [e]
  have := pick_run xs i k
  rw [List.filterMap_map] at this
  have e2 : ((fun x => xs[x]?) ∘ fun x => i + x) = fun m => xs[i + m]? := rfl
  rw [e2] at this
  rw [this]

theorem getItem_tuple_cut {t sl : Addr} {items : Array Value} {vl vu : Value} {lo hi : Option Int} {Q : Value → Shared → Prop} (ht : IsTup s.heap t items) (hs : s.heap.IsSliceOf sl vl vu .none) (pl : IsPart vl lo) (pu : IsPart vu hi)
    (hw : ¬ (sIx items.size 0 lo = 0 ∧ sIx items.size items.size hi = items.size))
    (h : Q (.ref s.heap.objs.size) { s with heap := s.heap.push { cls := .type "tuple", data := .seq ((items.toList.drop (sIx items.size 0 lo)).take (sIx items.size items.size hi - sIx items.size 0 lo)).toArray } })
    (hsz : items.size ≤ sizeLine) : wpAny (model prog w) A (getItem (.ref t) (.ref sl)) Q E s := by
  have htake : sizeOk (.seq ((items.toList.drop (sIx items.size 0 lo)).take (sIx items.size items.size hi - sIx items.size 0 lo)).toArray) := by
    show ((items.toList.drop (sIx items.size 0 lo)).take (sIx items.size items.size hi - sIx items.size 0 lo)).toArray.size ≤ sizeLine
    rw [List.size_toArray, List.length_take, List.length_drop, Array.length_toList]
    omega
  have hj : sIx items.size items.size hi ≤ items.size := sIx_le _ _ (Nat.le_refl _) hi
  obtain ⟨os, hos, hcs, hds⟩ := id hs
  have hTs : s.TypeIs (.ref sl) "slice" := ⟨os, hos, hcs⟩
  unfold getItem
  try with_reducible refine wpAny_holding ?_
  first | refine wpAny_bind (wpAny_pure ?_) | skip
  refine wpAny_bind (wpAny_sequenceKey ht.typeIs (by decide) ?_)
  refine wpAny_bind (wpAny_callSpecial?_slot (name := Str.ofString "__getitem__") ht.typeIs PyProof.Rows.slot_tuple_getitem
    (wpAny_call_entry PyProof.Rows.slot_tuple_getitem ht.typeIs entry_tuple_getitem ?_ (args_tuple_getitem _ _)))
  show wpAny _ _ (Builtin.Tuple.tupleItemsOf (.ref t) >>= _) _ _ s
  refine wpAny_bind (tupleItemsOf_ ht ?_)
  refine wpAny_bind (wpAny_typeOf hTs ?_)
  rw [if_pos (by decide)]
  refine wpAny_bind (sliceApplied_gen hs pl pu ?_)
  have hno : ¬ ((((sIx items.size 0 lo : Nat) : Int) == 0 && (1 : Int) == 1 && (sIx items.size items.size hi - sIx items.size 0 lo) == items.size) = true) := by
    intro q
    rw [Bool.and_eq_true, Bool.and_eq_true] at q
    have q1 : ((sIx items.size 0 lo : Nat) : Int) = 0 := eq_of_beq q.1.1
    have q2 : sIx items.size items.size hi - sIx items.size 0 lo = items.size := eq_of_beq q.2
    exact hw ⟨by omega, by omega⟩
  show wpAny _ _ (if (((sIx items.size 0 lo : Nat) : Int) == 0 && (1 : Int) == 1 && (sIx items.size items.size hi - sIx items.size 0 lo) == items.size) = true then _ else _) _ _ s
  rw [if_neg hno, pick_gen]
  first
    | exact wpAny_bind (m := Builtin.Tuple.tupleExact _) (wpAny_newObj_type (wpAny_pure ⟨_, rfl, wpAny_pure h⟩) htake)
    | exact wpAny_bind (m := Builtin.Tuple.tupleExact _) (wpAny_newObj_type (wpAny_bind (wpAny_pure (wpAny_pure ⟨_, rfl, wpAny_pure h⟩))) htake)
    | exact wpAny_bind (wpAny_bind (m := Builtin.Tuple.tupleExact _) (wpAny_newObj_type (wpAny_pure (wpAny_pure ⟨_, rfl, wpAny_pure h⟩)) htake))
    | exact wpAny_bind (wpAny_bind (m := Builtin.Tuple.tupleExact _) (wpAny_newObj_type (wpAny_pure ⟨_, rfl, wpAny_pure h⟩) htake))
end
end HT

namespace L2
open PySem PySem.Spec PyProof.Rows

/-! ### the parts of a slice -/
abbrev TO := St → Hp → (Option Int → Hp → Prop) → Prop
/-- a slice's part (left out, or an int) -/
def PO (X : Cx) (e : Option Expr) (t : TO) : Prop :=
  ∀ (pins : List (Addr × Obj)) (s : Shared) (σ : St) (H : Hp) (Q : Option Int → Hp → Prop), Inv X pins σ H s → t σ H Q →
    wpAny (model X.prog X.w) X.A (evalPart e X.env) (fun u s' => ∃ o H', Inv X pins σ H' s' ∧ IsPart u o ∧ Q o H') X.xe s
def tNoPart : TO := fun _ H Q => Q none H
def tPart (t : TE) : TO := fun σ H Q => t σ H fun x H1 => ∃ i, x = .int i ∧ Q (some i) H1

theorem intsAre_of {ns : List Int} : ∀ {us : List Value}, Vals (ns.map V.int) us → IntsAre us ns := by
  induction ns with
  | nil => intro us r; rw [List.map_nil] at r; cases r; exact .nil
  | cons n ns ih =>
    intro us r
    rw [List.map_cons] at r
    cases r with
    | cons r1 r2 =>
      obtain ⟨t, e⟩ := r1
      subst e
      exact .cons n t (ih r2)

section
variable {X : Cx} {e : Expr} {te : TE} {lo hi : Option Expr} {tl th : TO} {pos p2 : Pos}

theorem po_none : PO X none tNoPart := by
  intro pins s σ H Q I h
  rw [evalPart_none]
  exact wpAny_pure ⟨none, H, I, .none, h⟩
theorem po_some (h : PE X e te) : PO X (some e) (tPart te) := by
  intro pins s σ H Q I hw
  rw [evalPart_some]
  refine thn (h pins s σ H _ I hw) fun u s1 ⟨x, H1, I1, r1, q1⟩ => ?_
  obtain ⟨i, rfl, q⟩ := q1
  obtain ⟨t, rfl⟩ := r1
  exact ⟨some i, H1, I1, .int i t, q⟩

/-- what a slice of a value is, by values: the slice object stands at sl -/
def SlR (X : Cx) (r : V → Option Int → Option Int → Hp → VK → Prop) : Prop :=
  ∀ (pins : List (Addr × Obj)) (s : Shared) (σ : St) (H : Hp) (x : V) (v vl vu : Value) (lo hi : Option Int) (sl : Addr) (Q : VK), Inv X pins σ H s → RelV x v → s.heap.IsSliceOf sl vl vu .none → IsPart vl lo → IsPart vu hi → r x lo hi H Q →
    ∃ T id, typeLookup (.type T) "__getitem__" = pure (some (.builtin id)) ∧ s.TypeIs v T ∧ wpAny (model X.prog X.w) X.A (getItem v (.ref sl)) (EP X pins σ Q) X.xe s
theorem SlR.or {r r' : V → Option Int → Option Int → Hp → VK → Prop} (h : SlR X r) (h' : SlR X r') : SlR X (fun x lo hi H Q => r x lo hi H Q ∨ r' x lo hi H Q) := by
  intro pins s σ H x v vl vu lo hi sl Q I rx hs pl pu q
  rcases q with q | q
  · exact h pins s σ H x v vl vu lo hi sl Q I rx hs pl pu q
  · exact h' pins s σ H x v vl vu lo hi sl Q I rx hs pl pu q
def tSl (r : V → Option Int → Option Int → Hp → VK → Prop) (te : TE) (tl th : TO) : TE := fun σ H Q => te σ H fun x H1 => tl σ H1 fun l H2 => th σ H2 fun u H3 => r x l u H3 Q
/-- a[lo:hi], any a -/
theorem pe_slice {r : V → Option Int → Option Int → Hp → VK → Prop} (hr : SlR X r) (he : PE X e te) (hl : PO X lo tl) (hu : PO X hi th) : PE X (.Subscript e (.Slice lo hi none p2) pos) (tSl r te tl th) := by
  intro pins s σ H Q I h
  refine Subscript_ (thn (he pins s σ H _ I h) fun v s1 ⟨x, H1, I1, r1, q1⟩ => ?_)
  refine wpAny_Slice (thn (hl pins s1 σ H1 _ I1 q1) fun vl s2 ⟨l, H2, I2, pl, q2⟩ => thn (hu pins s2 σ H2 _ I2 q2) fun vu s3 ⟨u, H3, I3, pu, q3⟩ => ?_)
  rw [evalPart_none]
  refine wpAny_pure ?_
  have I4 : Inv X pins σ H3 { s3 with heap := s3.heap.push { cls := .type "slice", data := .fields #[vl, vu, .none] } } := I3.kept (t' := s3.toks) fun b ob q => Heap.get?_push_of_some _ q
  obtain ⟨T, id, hT, ht, hg⟩ := hr pins { s3 with heap := s3.heap.push { cls := .type "slice", data := .fields #[vl, vu, .none] } } σ H3 x v vl vu l u s3.heap.objs.size Q I4 r1 (Heap.IsSliceOf.new ..) pl pu q3
  show wpAny (model X.prog X.w) X.A (subscriptTail e (.Slice lo hi none p2) v (.ref s3.heap.objs.size)) (EP X pins σ Q) X.xe { s3 with heap := s3.heap.push { cls := .type "slice", data := .fields #[vl, vu, .none] } }
  exact tail_any (ops := [.ref s3.heap.objs.size, v]) ht hT hg (by with_unfolding_all rfl)

/-- the items of xs[lo:hi] -/
def cutV (xs : List V) (lo hi : Option Int) : List V := (xs.drop (HT.sIx xs.length 0 lo)).take (HT.sIx xs.length xs.length hi - HT.sIx xs.length 0 lo)
theorem cutV_length (xs : List V) (lo hi : Option Int) : (cutV xs lo hi).length ≤ xs.length := by
  unfold cutV
  rw [List.length_take, List.length_drop]
  omega
/-- t[lo:hi], not the whole of it (the whole would be t itself) -/
def rSlT (K : PySem.W.Frag) : V → Option Int → Option Int → Hp → VK → Prop := fun x lo hi H Q => ∃ a xs, x = .ref a ∧ SqT K H a xs ∧
  ¬ (HT.sIx xs.length 0 lo = 0 ∧ HT.sIx xs.length xs.length hi = xs.length) ∧ ∀ p, H p = none → Q (.ref p) (upd H p (.tup (cutV xs lo hi)))
theorem sl_tup : SlR X (rSlT X.K) := by
  intro pins s σ H x v vl vu lo hi sl Q I rx hs pl pu h
  obtain ⟨a, xs, rfl, hx, hw, q⟩ := h
  cases rx
  obtain ⟨its, r, ht, hz⟩ := I.tuple hx
  have hlen : its.toArray.size = xs.length := by rw [List.size_toArray]; exact r.length.symm
  refine ⟨"tuple", _, PyProof.Rows.slot_tuple_getitem.lookup, ht.typeIs, ?_⟩
  refine HT.getItem_tuple_cut ht hs pl pu (by rw [hlen]; exact hw) ?_ (by rw [hlen]; exact hz)
  rw [hlen]
  refine ⟨.ref s.heap.objs.size, _, I.laid (t' := s.toks) (o := .tup (cutV xs lo hi)) (fun b ob q => Heap.get?_push_of_some _ q) (Nat.le_refl _) ?_, rfl, q _ (I.hok.fresh (Nat.le_refl _))⟩
  exact ⟨Nat.le_trans (cutV_length xs lo hi) hz, _, (r.drop (HT.sIx xs.length 0 lo)).take (HT.sIx xs.length xs.length hi - HT.sIx xs.length 0 lo), IsTup.new _ _⟩

/-! ### t < u, t + u -/
def rLtT (K : PySem.W.Frag) : R2 := fun x y H Q => ∃ a b ns ms, x = .ref a ∧ y = .ref b ∧ SqT K H a (ns.map V.int) ∧ SqT K H b (ms.map V.int) ∧ Q (.bl (HT.lexLt ns ms)) H
theorem op_ltT (hu : X.A.units < cLine) : OpR X (compareOp .Lt) (rLtT X.K) := by
  intro pins s σ H x y v u Q I rx ry h
  obtain ⟨a, b, ns, ms, rfl, rfl, ha, hb, q⟩ := h
  cases rx
  cases ry
  obtain ⟨its, r1, p1, _⟩ := I.tuple ha
  obtain ⟨its2, r2, p2, _⟩ := I.tuple hb
  have i1 : IntsAre its.toArray.toList ns := intsAre_of r1
  have i2 : IntsAre its2.toArray.toList ms := intsAre_of r2
  exact HT.lt_tupInts p1 p2 i1 i2 hu ⟨.bl (HT.lexLt ns ms), H, I, rfl, q⟩
/-- t + u, t not empty: u empty gives t itself -/
def rCatT (K : PySem.W.Frag) : R2 := fun x y H Q => ∃ a b xs ys, x = .ref a ∧ y = .ref b ∧ SqT K H a xs ∧ SqT K H b ys ∧ xs ≠ [] ∧ xs.length + ys.length ≤ sizeLine ∧
  (ys = [] → Q (.ref a) H) ∧ (ys ≠ [] → ∀ p, H p = none → Q (.ref p) (upd H p (.tup (xs ++ ys))))
theorem Vals.nil_iff {xs : List V} {us : List Value} (r : Vals xs us) : us = [] ↔ xs = [] := by
  cases r with
  | nil => simp
  | cons _ _ => simp
theorem op_catT : OpR X (binaryOp .Add) (rCatT X.K) := by
  intro pins s σ H x y v u Q I rx ry h
  obtain ⟨a, b, xs, ys, rfl, rfl, ha, hb, hx, hz, q1, q2⟩ := h
  cases rx
  cases ry
  obtain ⟨its, r1, p1, _⟩ := I.tuple ha
  obtain ⟨its2, r2, p2, _⟩ := I.tuple hb
  refine HT.cat_tup p1 p2 (fun z => hx (r1.nil_iff.mp z)) (fun z => ⟨.ref a, H, I, rfl, q1 (r2.nil_iff.mp z)⟩) (fun z => ?_) (by rw [← r1.length, ← r2.length]; exact hz)
  refine ⟨.ref s.heap.objs.size, _, I.laid (t' := s.toks) (o := .tup (xs ++ ys)) (fun b ob q => Heap.get?_push_of_some _ q) (Nat.le_refl _) ?_, rfl, q2 (fun w => z (r2.nil_iff.mpr w)) _ (I.hok.fresh (Nat.le_refl _))⟩
  exact ⟨by rw [List.length_append]; exact hz, _, r1.append r2, IsTup.new _ _⟩
/-- tuple(t) -/
theorem call_tupleT : CallR X (.type "tuple") (fun xs H Q => ∃ a ys, xs = [.ref a] ∧ SqT X.K H a ys ∧ Q (.ref a) H) := by
  intro pins s σ H xs us Q I r h
  obtain ⟨a, ys, rfl, ha, q⟩ := h
  obtain ⟨u, rfl, ru⟩ := vals1 r
  cases ru
  obtain ⟨its, _, p1, _⟩ := I.tuple ha
  exact call_tuple_same (items := its.toArray) p1 ⟨.ref a, H, I, rfl, q⟩
end
end L2

namespace L2
open PySem PySem.Spec PyProof.Rows

/-! ### places -/
/-- the place that an index of any sign means -/
def ixN (n : Nat) (i : Int) : Option Nat := if 0 ≤ i then (if i < n then some i.toNat else none) else if -(n : Int) ≤ i then some (i + n).toNat else none
def atI {α : Type} (xs : List α) (i : Int) : Option α := (ixN xs.length i).bind fun j => xs[j]?
theorem ixN_seq {n : Nat} {i : Int} {j : Nat} (h : ixN n i = some j) : seqIndex? i n = some j ∧ j < n ∧ -(n : Int) ≤ i ∧ i < n := by
  unfold ixN at h
  by_cases h0 : 0 ≤ i
  · rw [if_pos h0] at h
    by_cases h1 : i < n
    · rw [if_pos h1] at h
      have e : i.toNat = j := Option.some.inj h
      exact ⟨by rw [seqIndex_of h0 h1, e], by omega, by omega, h1⟩
    · rw [if_neg h1] at h; cases h
  · rw [if_neg h0] at h
    by_cases h1 : -(n : Int) ≤ i
    · rw [if_pos h1] at h
      have e : (i + n).toNat = j := Option.some.inj h
      exact ⟨by rw [seqIndex_neg (by omega) h1, e], by omega, h1, by omega⟩
    · rw [if_neg h1] at h; cases h
theorem atI_get {α : Type} {xs : List α} {i : Int} {v : α} (h : atI xs i = some v) : ∃ j, seqIndex? i xs.length = some j ∧ xs[j]? = some v ∧ j < xs.length ∧ -(xs.length : Int) ≤ i ∧ i < xs.length := by
  unfold atI at h
  cases e : ixN xs.length i with
  | none => rw [e] at h; cases h
  | some j =>
    rw [e] at h
    obtain ⟨h1, h2, h3, h4⟩ := ixN_seq e
    exact ⟨j, h1, h, h2, h3, h4⟩
theorem atI_nat {α : Type} {xs : List α} {j : Nat} {v : α} (h : xs[j]? = some v) : atI xs (j : Int) = some v := by
  have hj : j < xs.length := (List.getElem?_eq_some_iff.mp h).1
  have e : ixN xs.length (j : Int) = some j := by
    unfold ixN
    rw [if_pos (by omega), if_pos (by omega)]; simp
  unfold atI; rw [e]; exact h
theorem atI_last {α : Type} (xs : List α) (v : α) : atI (xs ++ [v]) (-1) = some v := by
  have hl : (xs ++ [v]).length = xs.length + 1 := by simp
  have e : ixN (xs ++ [v]).length (-1) = some xs.length := by
    unfold ixN
    rw [hl, if_neg (by decide), if_pos (by omega)]
    congr 1
    omega
  unfold atI
  rw [e]
  show (xs ++ [v])[xs.length]? = some v
  simp

/-! ### what may be subscripted -/
/-- what stands as an index of a plain subscript -/
def PlainIx (b : Expr) : Prop := ∀ o i, subscripted b false o i = operate [o, i] (getItem o i)
/-- a subscript by values -/
def IxR (X : Cx) (r : R2) : Prop :=
  ∀ (value slice : Expr) (pins : List (Addr × Obj)) (s : Shared) (σ : St) (H : Hp) (x y : V) (v u : Value) (Q : VK), Inv X pins σ H s → RelV x v → RelV y u → r x y H Q →
    subscripted slice false v u = operate [v, u] (getItem v u) → wpAny (model X.prog X.w) X.A (subscriptTail value slice v u) (EP X pins σ Q) X.xe s
/-- a call of a builtin's method by values: the receiver, the arguments -/
def MtR (X : Cx) (id : String) (r : V → List V → Hp → VK → Prop) : Prop :=
  ∀ (pins : List (Addr × Obj)) (s : Shared) (σ : St) (H : Hp) (x : V) (xs : List V) (v : Value) (us : List Value) (Q : VK), Inv X pins σ H s → RelV x v → Vals xs us → r x xs H Q →
    wpAny (model X.prog X.w) X.A (call (.builtin id) (v :: us)) (EP X pins σ Q) X.xe s
section
variable {X : Cx} {a b : Expr} {ta tb : TE} {pos : Pos}
theorem IxR.or {r r' : R2} (h : IxR X r) (h' : IxR X r') : IxR X (fun x y H Q => r x y H Q ∨ r' x y H Q) := by
  intro value slice pins s σ H x y v u Q I rx ry q hs
  rcases q with q | q
  · exact h value slice pins s σ H x y v u Q I rx ry q hs
  · exact h' value slice pins s σ H x y v u Q I rx ry q hs
theorem MtR.or {id : String} {r r' : V → List V → Hp → VK → Prop} (h : MtR X id r) (h' : MtR X id r') : MtR X id (fun x xs H Q => r x xs H Q ∨ r' x xs H Q) := by
  intro pins s σ H x xs v us Q I rx rs q
  rcases q with q | q
  · exact h pins s σ H x xs v us Q I rx rs q
  · exact h' pins s σ H x xs v us Q I rx rs q
/-- a[b] -/
theorem pe_ix {r : R2} (hr : IxR X r) (ha : PE X a ta) (hb : PE X b tb) (hs : PlainIx b) : PE X (.Subscript a b pos) (tOp r ta tb) := by
  intro pins s σ H Q I h
  exact Subscript_ (binT ha hb I h fun v u s2 x y H2 I2 rx ry q => hr a b pins s2 σ H2 x y v u Q I2 rx ry q (hs _ _))

def rIxL (K : PySem.W.Frag) : R2 := fun x y H Q => ∃ p xs i v, x = .ref p ∧ y = .int i ∧ SqL K H p xs ∧ atI xs i = some v ∧ Q v H
def rIxT (K : PySem.W.Frag) : R2 := fun x y H Q => ∃ p xs i v, x = .ref p ∧ y = .int i ∧ SqT K H p xs ∧ atI xs i = some v ∧ Q v H
def rIxS : R2 := fun x y H Q => ∃ z i c, x = .str z ∧ y = .int i ∧ z.length ≤ sizeLine ∧ atI z.cps.toList i = some c ∧ Q (.str ⟨#[c]⟩) H
theorem ix_list : IxR X (rIxL X.K) := by
  intro value slice pins s σ H x y v u Q I rx ry h hs
  obtain ⟨p, xs, i, z, rfl, rfl, hq, he, q⟩ := h
  cases rx
  obtain ⟨t, rfl⟩ := ry
  obtain ⟨its, r, pl, hz⟩ := I.list hq
  obtain ⟨j, h1, h2, h3, h4, h5⟩ := atI_get he
  obtain ⟨w, ew, rw'⟩ := r.get h2
  have hl := r.length
  have hn := line63
  have fin : EP X pins σ Q w s := ⟨z, H, I, rw', q⟩
  by_cases h0 : 0 ≤ i
  · have hj : i.toNat = j := by
      rw [seqIndex_of h0 h5] at h1
      exact Option.some.inj h1
    exact item_listR pl.isList h0 (by omega) (by rw [hj]; simpa using ew) fin hs
  · have hj : (i + (its.toArray.size : Int)).toNat = j := by
      rw [seqIndex_neg (by omega) h4] at h1
      rw [List.size_toArray, ← hl]
      exact Option.some.inj h1
    exact subscriptTail_builtinR (x := w) pl.isList.typeIs slot_list_getitem.lookup
      (wpAny_getItem_list_neg (Q := fun r s' => r = w ∧ EP X pins σ Q r s') pl.isList (by omega) (by rw [List.size_toArray] <;> omega) (by omega) (by rw [hj]; simpa using ew) ⟨rfl, fin⟩) hs
theorem ix_tup : IxR X (rIxT X.K) := by
  intro value slice pins s σ H x y v u Q I rx ry h hs
  obtain ⟨p, xs, i, z, rfl, rfl, hq, he, q⟩ := h
  cases rx
  obtain ⟨t, rfl⟩ := ry
  obtain ⟨its, r, pl, hz⟩ := I.tuple hq
  obtain ⟨j, h1, h2, h3, h4, h5⟩ := atI_get he
  obtain ⟨w, ew, rw'⟩ := r.get h2
  have hl := r.length
  have hn := line63
  have fin : EP X pins σ Q w s := ⟨z, H, I, rw', q⟩
  exact subscriptTail_builtinR (x := w) pl.typeIs slot_tuple_getitem.lookup
    (getItem_tuple (j := j) (Q := fun r s' => r = w ∧ EP X pins σ Q r s') pl (by omega) (by omega) (by rw [List.size_toArray, ← hl]; exact h1) (by simpa using ew) ⟨rfl, fin⟩) hs
theorem ix_str : IxR X rIxS := by
  intro value slice pins s σ H x y v u Q I rx ry h hs
  obtain ⟨z, i, c, rfl, rfl, hz, he, q⟩ := h
  obtain ⟨t, rfl⟩ := rx
  obtain ⟨t', rfl⟩ := ry
  obtain ⟨j, h1, h2, h3, h4, h5⟩ := atI_get he
  have hl : z.cps.toList.length = z.length := by simp [Str.length]
  rw [hl] at h1 h4 h5
  have hn := line63
  exact tail_any (typeIs_str s z t) slot_str_getitem.lookup (getItem_str (c := c) (by
    have e1 : decide (i < -(2 ^ 63 : Int)) = false := decide_eq_false (by omega)
    have e2 : decide (i ≥ 2 ^ 63) = false := decide_eq_false (by omega)
    rw [e1, e2, Bool.or_false]) (by rw [h1]; simpa using h2) ⟨.str ⟨#[c]⟩, H, I.tok _, ⟨_, rfl⟩, q⟩) hs
/-- list, tuple or str -/
def rIx (K : PySem.W.Frag) : R2 := fun x y H Q => rIxL K x y H Q ∨ rIxT K x y H Q ∨ rIxS x y H Q
theorem ix_seq : IxR X (rIx X.K) := ix_list.or (ix_tup.or ix_str)

/-! ### xs[i] = v, any sign -/
/-- the list's object behind a store -/
theorem mapSeq_set (its : List Value) (n j : Nat) (u : Value) : Obj.mapSeq (·.setIfInBounds j u) { cls := .type "list", data := .seq its.toArray n } = { cls := .type "list", data := .seq (its.set j u).toArray n } := by
  simp [Obj.mapSeq]
theorem Inv.lst {pins : List (Addr × Obj)} {σ : St} {H : Hp} {s : Shared} {p : Addr} {xs : List V} (I : Inv X pins σ H s) (h : H p = some (.lst xs)) :
    ∃ (its : List Value) (n : Nat), Vals xs its ∧ s.heap.get? p = some { cls := .type "list", data := .seq its.toArray n } ∧ xs.length ≤ sizeLine := by
  obtain ⟨z, its, n, r, e⟩ := I.hok p _ h
  exact ⟨its, n, r, e, z⟩
/-- the list at p is written by an update of its object -/
theorem Inv.lstUpd {pins : List (Addr × Obj)} {σ : St} {H : Hp} {s : Shared} {p : Addr} {xs ys : List V} {its its' : List Value} {n n' : Nat} {f : Obj → Obj} (I : Inv X pins σ H s) (h : H p = some (.lst xs))
    (ho : s.heap.get? p = some { cls := .type "list", data := .seq its.toArray n }) (hf : f { cls := .type "list", data := .seq its.toArray n } = { cls := .type "list", data := .seq its'.toArray n' }) (r : Vals ys its') (hz : ys.length ≤ sizeLine) (t : Nat) :
    Inv X pins σ (upd H p (.lst ys)) { s with heap := s.heap.update p f, toks := t } := by
  have e : (s.heap.update p f).get? p = some { cls := .type "list", data := .seq its'.toArray n' } := by
    rw [Heap.get?_update_self f ho (by rw [hf] <;> rfl), hf]
  refine I.write (x := p) (e := p) (by rw [h]; trivial) (.inl rfl) (fun b u hb q => (Heap.get?_update_other _ _ (Ne.symm hb)).trans q) ⟨_, e⟩ ?_
  exact ⟨hz, its', n', r, e⟩
def rSetL : V → V → V → Hp → (Hp → Prop) → Prop := fun o i v H Q => ∃ p xs k j, o = .ref p ∧ i = .int k ∧ H p = some (.lst xs) ∧ ixN xs.length k = some j ∧ Q (upd H p (.lst (xs.set j v)))
theorem set_list : PSet X rSetL := by
  intro pins s σ H o i v ov iv u Q I ro ri rv h
  obtain ⟨p, xs, k, j, rfl, rfl, hp, hj, q⟩ := h
  cases ro
  obtain ⟨t, rfl⟩ := ri
  obtain ⟨its, n, r, ho, hz⟩ := I.lst hp
  obtain ⟨h1, h2, h3, h4⟩ := ixN_seq hj
  have hl := r.length
  have hn := line63
  have I' : Inv X pins σ (upd H p (.lst (xs.set j v))) { s with heap := s.heap.update p (Obj.mapSeq (·.setIfInBounds j u)) } :=
    I.lstUpd hp ho (mapSeq_set its n j u) (r.set rv j) (by rw [List.length_set]; exact hz) s.toks
  by_cases h0 : 0 ≤ k
  · have hk : k.toNat = j := by
      rw [seqIndex_of h0 h4] at h1
      exact Option.some.inj h1
    exact PySem.W.ki_setAt ho h0 (by omega) (by rw [List.size_toArray, ← hl]; exact h4) (by rw [hk]; exact ⟨_, I', q⟩)
  · have hk : (k + (its.toArray.size : Int)).toNat = j := by
      rw [seqIndex_neg (by omega) h3] at h1
      rw [List.size_toArray, ← hl]
      exact Option.some.inj h1
    exact PySem.W.ki_setBack ho (by omega) (by rw [List.size_toArray, ← hl]; exact h3) (by omega) (by rw [hk]; exact ⟨_, I', q⟩)

/-! ### slices -/
theorem slice_bounds (lo hi : Option Int) (n : Nat) : (sliceBounds lo hi none n).1 = ((HT.sIx n 0 lo : Nat) : Int) ∧ (sliceBounds lo hi none n).2.1 = ((HT.sIx n n hi : Nat) : Int) ∧ (sliceBounds lo hi none n).2.2 = 1 := by
  refine ⟨?_, ?_, rfl⟩
  · cases lo with
    | none => simp [sliceBounds, HT.sIx]
    | some i =>
      simp only [sliceBounds, HT.sIx, Option.getD_none, show (1 : Int) > 0 by decide, if_true]
      by_cases h : i < 0
      · simp only [h, if_true] <;> omega
      · simp only [h, if_false] <;> omega
  · cases hi with
    | none => simp [sliceBounds, HT.sIx]
    | some i =>
      simp only [sliceBounds, HT.sIx, Option.getD_none, show (1 : Int) > 0 by decide, if_true]
      by_cases h : i < 0
      · simp only [h, if_true] <;> omega
      · simp only [h, if_false] <;> omega
theorem slicePick_cut (its : List Value) (lo hi : Option Int) : slicePick its.toArray lo hi none = ((its.drop (HT.sIx its.length 0 lo)).take (HT.sIx its.length its.length hi - HT.sIx its.length 0 lo)).toArray := by
  obtain ⟨h1, h2, h3⟩ := slice_bounds lo hi its.toArray.size
  unfold slicePick
  rw [h1, h2, h3]
  simp only [sliceRange_one, pick_run, List.size_toArray] <;> rfl
/-- xs[lo:hi] of a list: a new list -/
def rSlL (K : PySem.W.Frag) : V → Option Int → Option Int → Hp → VK → Prop := fun x lo hi H Q => ∃ a xs, x = .ref a ∧ SqL K H a xs ∧ ∀ p, H p = none → Q (.ref p) (upd H p (.lst (cutV xs lo hi)))
theorem sl_list : SlR X (rSlL X.K) := by
  intro pins s σ H x v vl vu lo hi sl Q I rx hs pl pu h
  obtain ⟨a, xs, rfl, hx, q⟩ := h
  cases rx
  obtain ⟨its, r, ht, hz⟩ := I.list hx
  have hlen := r.length
  refine ⟨"list", _, slot_list_getitem.lookup, ht.isList.typeIs, ?_⟩
  refine wpAny_getItem_list_slice ht.isList hs pl pu .none (by simp) ?_ (by rw [List.size_toArray] <;> omega)
  rw [slicePick_cut, ← hlen]
  refine ⟨.ref s.heap.objs.size, _, I.laid (t' := s.toks) (o := .lst (cutV xs lo hi)) (fun b ob q => Heap.get?_push_of_some _ q) (Nat.le_refl _) ?_, rfl, q _ (I.hok.fresh (Nat.le_refl _))⟩
  exact ⟨Nat.le_trans (cutV_length xs lo hi) hz, _, 0, (r.drop (HT.sIx xs.length 0 lo)).take (HT.sIx xs.length xs.length hi - HT.sIx xs.length 0 lo), Heap.get?_push_size _ rfl⟩

/-! ### in, not in: flat items -/
def flatV : V → Bool
  | .non => true
  | .bl _ => true
  | .int _ => true
  | .str _ => true
  | _ => false
/-- == of flat values -/
def eqV : V → V → Bool
  | .non, .non => true
  | .bl a, .bl b => a == b
  | .bl a, .int b => (if a then 1 else 0) == b
  | .int a, .bl b => a == (if b then 1 else 0)
  | .int a, .int b => a == b
  | .str a, .str b => a == b
  | _, _ => false
theorem eqAt_V {A : Around} {s : Shared} {y x : V} {u v : Value} (ry : RelV y u) (rx : RelV x v) (fy : flatV y = true) (fx : flatV x = true) : SeqAt.EqAt A s u v (eqV y x) := by
  cases y with
  | non =>
    cases ry
    cases x with
    | non => cases rx; exact SeqAt.EqAt.same _
    | bl b => cases rx; exact SeqAt.EqAt.none_bool b
    | int b => obtain ⟨t, rfl⟩ := rx; exact SeqAt.EqAt.none_int b t
    | str b => obtain ⟨t, rfl⟩ := rx; exact SeqAt.EqAt.none_str b t
    | _ => exact absurd (show false = true from fx) Bool.false_ne_true
  | bl a =>
    cases ry
    cases x with
    | non => cases rx; exact SeqAt.EqAt.bool_none a
    | bl b => cases rx; exact SeqAt.EqAt.bool_bool a b
    | int b => obtain ⟨t, rfl⟩ := rx; exact SeqAt.EqAt.bool_int a b t
    | str b => obtain ⟨t, rfl⟩ := rx; exact SeqAt.EqAt.bool_str a b t
    | _ => exact absurd (show false = true from fx) Bool.false_ne_true
  | int a =>
    obtain ⟨t', rfl⟩ := ry
    cases x with
    | non => cases rx; exact SeqAt.EqAt.int_none a t'
    | bl b => cases rx; exact SeqAt.EqAt.int_bool a t' b
    | int b => obtain ⟨t, rfl⟩ := rx; exact SeqAt.EqAt.int_int a t' b t
    | str b => obtain ⟨t, rfl⟩ := rx; exact SeqAt.EqAt.int_str a t' b t
    | _ => exact absurd (show false = true from fx) Bool.false_ne_true
  | str a =>
    obtain ⟨t', rfl⟩ := ry
    cases x with
    | non => cases rx; exact SeqAt.EqAt.str_none a t'
    | bl b => cases rx; exact SeqAt.EqAt.str_bool a t' b
    | int b => obtain ⟨t, rfl⟩ := rx; exact SeqAt.EqAt.str_int a t' b t
    | str b => obtain ⟨t, rfl⟩ := rx; exact SeqAt.EqAt.str_str a t' b t
    | _ => exact absurd (show false = true from fx) Bool.false_ne_true
  | _ => exact absurd (show false = true from fy) Bool.false_ne_true
/-- the items' answers, read off the values (a value's own answer does not lean on its token) -/
def eqU (x : V) (u : Value) : Bool := match u with
  | .none => eqV .non x
  | .bool b => eqV (.bl b) x
  | .int i _ => eqV (.int i) x
  | .str z _ => eqV (.str z) x
  | _ => false
theorem eqU_of {x y : V} {u : Value} (r : RelV y u) (f : flatV y = true) : eqU x u = eqV y x := by
  cases y with
  | non => cases r; rfl
  | bl b => cases r; rfl
  | int i => obtain ⟨t, rfl⟩ := r; rfl
  | str z => obtain ⟨t, rfl⟩ := r; rfl
  | _ => exact absurd (show false = true from f) Bool.false_ne_true
theorem any_eqU {x : V} : ∀ {xs : List V} {us : List Value}, Vals xs us → xs.all flatV = true → us.any (eqU x) = xs.any fun y => eqV y x
  | _, _, .nil, _ => rfl
  | y :: xs, u :: us, .cons r t, f => by
    rw [List.all_cons, Bool.and_eq_true] at f
    rw [List.any_cons, List.any_cons, eqU_of r f.1, any_eqU t f.2]
theorem mem_eqAt {A : Around} {s : Shared} {x : V} {v : Value} (rx : RelV x v) (fx : flatV x = true) : ∀ {xs : List V} {us : List Value}, Vals xs us → xs.all flatV = true → ∀ u ∈ us, SeqAt.EqAt A s u v (eqU x u)
  | _, _, .nil, _ => fun u hu => by cases hu
  | y :: xs, u :: us, .cons r t, f => fun u' hu => by
    rw [List.all_cons, Bool.and_eq_true] at f
    rcases List.mem_cons.mp hu with rfl | hu
    · rw [eqU_of r f.1]; exact eqAt_V r rx f.1 fx
    · exact mem_eqAt rx fx t f.2 u' hu
def inV (x : V) (xs : List V) : Bool := xs.any fun y => eqV y x
/-- x in a list or tuple of flat items -/
def rIn (K : PySem.W.Frag) (neg : Bool) : R2 := fun x y H Q => ∃ p xs, y = .ref p ∧ (SqL K H p xs ∨ SqT K H p xs) ∧ flatV x = true ∧ xs.all flatV = true ∧ Q (.bl (if neg then !inV x xs else inV x xs)) H
theorem op_in_seq : OpR X (compareOp .In) (rIn X.K false) := by
  intro pins s σ H x y v u Q I rx ry h
  obtain ⟨p, xs, rfl, hq, fx, fs, q⟩ := h
  cases ry
  rcases hq with hq | hq
  · obtain ⟨its, r, pl, hz⟩ := I.list hq
    refine SeqAt.in_listAt (eqU x) pl.isList (fun w hw => mem_eqAt rx fx r fs w (by simpa using hw)) ⟨.bl _, H, I, rfl, ?_⟩
    rw [show its.toArray.any (eqU x) = its.any (eqU x) by simp, any_eqU r fs]
    exact q
  · obtain ⟨its, r, pl, hz⟩ := I.tuple hq
    refine SeqAt.in_tupleAt (eqU x) pl (fun w hw => mem_eqAt rx fx r fs w (by simpa using hw)) ⟨.bl _, H, I, rfl, ?_⟩
    rw [show its.toArray.any (eqU x) = its.any (eqU x) by simp, any_eqU r fs]
    exact q
theorem op_notIn_seq : OpR X (compareOp .NotIn) (rIn X.K true) := by
  intro pins s σ H x y v u Q I rx ry h
  obtain ⟨p, xs, rfl, hq, fx, fs, q⟩ := h
  cases ry
  rcases hq with hq | hq
  · obtain ⟨its, r, pl, hz⟩ := I.list hq
    refine SeqAt.notIn_listAt (eqU x) pl.isList (fun w hw => mem_eqAt rx fx r fs w (by simpa using hw)) ⟨.bl _, H, I, rfl, ?_⟩
    rw [show its.toArray.any (eqU x) = its.any (eqU x) by simp, any_eqU r fs]
    exact q
  · obtain ⟨its, r, pl, hz⟩ := I.tuple hq
    refine SeqAt.notIn_tupleAt (eqU x) pl (fun w hw => mem_eqAt rx fx r fs w (by simpa using hw)) ⟨.bl _, H, I, rfl, ?_⟩
    rw [show its.toArray.any (eqU x) = its.any (eqU x) by simp, any_eqU r fs]
    exact q
theorem op_notIn_str : OpR X (compareOp .NotIn) (fun x y H Q => ∃ i j, x = .str i ∧ y = .str j ∧ Q (.bl (!(!(Builtin.Str.occurrences j i 0 j.length 1).isEmpty))) H) := by
  intro pins s σ H x y v u Q I rx ry h
  obtain ⟨i, j, rfl, rfl, q⟩ := h
  obtain ⟨t, rfl⟩ := rx
  obtain ⟨t', rfl⟩ := ry
  exact notIn_str ⟨.bl _, H, I, rfl, q⟩

/-! ### len, list(x), tuple(x) of any list or tuple that is read -/
theorem call_len_seq : CallR X (.builtin "len") (fun xs H Q => ∃ p ys, xs = [.ref p] ∧ (SqL X.K H p ys ∨ SqT X.K H p ys) ∧ Q (.int ys.length) H) := by
  intro pins s σ H xs us Q I r h
  obtain ⟨p, ys, rfl, hq, q⟩ := h
  obtain ⟨u, rfl, rx⟩ := vals1 r
  cases rx
  have hn := line63
  rcases hq with hq | hq
  · obtain ⟨its, r', pl, hz⟩ := I.list hq
    have hlen := r'.length
    exact Calls.call_len_list pl.isList (by simp only [List.size_toArray] <;> omega) ⟨.int ys.length, H, I.tok _, ⟨s.toks + 1, by rw [List.size_toArray, hlen]⟩, q⟩
  · obtain ⟨its, r', pl, hz⟩ := I.tuple hq
    have hlen := r'.length
    exact len_tuple pl (by simp only [List.size_toArray] <;> omega) ⟨.int ys.length, H, I.tok _, ⟨s.toks + 1, by rw [List.size_toArray, hlen]⟩, q⟩
theorem call_len_str : CallR X (.builtin "len") (fun xs H Q => ∃ z, xs = [.str z] ∧ z.length ≤ sizeLine ∧ Q (.int z.length) H) := by
  intro pins s σ H xs us Q I r h
  obtain ⟨z, rfl, hz, q⟩ := h
  obtain ⟨u, rfl, t, rfl⟩ := vals1 r
  have hn := line63
  exact len_str (by omega) ⟨.int z.length, H, I.tok _, ⟨_, rfl⟩, q⟩
theorem CallR.or {f : Value} {r r' : List V → Hp → VK → Prop} (h : CallR X f r) (h' : CallR X f r') : CallR X f (fun xs H Q => r xs H Q ∨ r' xs H Q) := by
  intro pins s σ H xs us Q I rs q
  rcases q with q | q
  · exact h pins s σ H xs us Q I rs q
  · exact h' pins s σ H xs us Q I rs q
theorem call_list_of : CallR X (.type "list") (fun xs H Q => ∃ p ys, xs = [.ref p] ∧ (SqL X.K H p ys ∨ SqT X.K H p ys) ∧ ∀ l, H l = none → Q (.ref l) (upd H l (.lst ys))) := by
  intro pins s σ H xs us Q I r h
  obtain ⟨p, ys, rfl, hq, q⟩ := h
  obtain ⟨u, rfl, rx⟩ := vals1 r
  cases rx
  have fin : ∀ (its : List Value), Vals ys its → ys.length ≤ sizeLine → ∀ (h' : Heap) (c' : Nat), (∀ b o', s.heap.get? b = some o' → h'.get? b = some o') →
      h'.get? s.heap.objs.size = some { cls := .type "list", dict := none, data := .seq its.toArray c', slots := #[] } → EP X pins σ Q (.ref s.heap.objs.size) { s with heap := h' } := fun its r' hz h' c' kp e =>
    ⟨.ref s.heap.objs.size, _, I.laid (t' := s.toks) kp (Nat.le_refl _) (show ObjOk X.prog X.w _ h' _ (.lst ys) from ⟨hz, its, c', r', e⟩), rfl, q _ (I.hok.fresh (Nat.le_refl _))⟩
  rcases hq with hq | hq
  · obtain ⟨its, r', pl, hz⟩ := I.list hq
    have hlen := r'.length
    obtain ⟨o, ho, hc, n, hd⟩ := pl.isList
    exact call_list_seq p (.inl rfl) ho hc hd (fun h' c' kp e => fin its r' hz h' c' kp e) (by simp only [List.size_toArray] <;> omega)
  · obtain ⟨its, r', pl, hz⟩ := I.tuple hq
    have hlen := r'.length
    obtain ⟨o, ho, hc, n, hd⟩ := pl
    exact call_list_seq p (.inr rfl) ho hc hd (fun h' c' kp e => fin its r' hz h' c' kp e) (by simp only [List.size_toArray] <;> omega)
theorem call_tuple_of : CallR X (.type "tuple") (fun xs H Q => ∃ p ys, xs = [.ref p] ∧ ((SqL X.K H p ys ∧ ∀ l, H l = none → Q (.ref l) (upd H l (.tup ys))) ∨ (SqT X.K H p ys ∧ Q (.ref p) H))) := by
  intro pins s σ H xs us Q I r h
  obtain ⟨p, ys, rfl, h⟩ := h
  obtain ⟨u, rfl, rx⟩ := vals1 r
  cases rx
  rcases h with ⟨hq, q⟩ | ⟨hq, q⟩
  · obtain ⟨its, r', pl, hz⟩ := I.list hq
    have hlen := r'.length
    refine call_tuple_list pl.isList (fun h' kp => ?_) (by simp only [List.size_toArray] <;> omega)
    have I1 : Inv X pins σ H { s with heap := h' } := I.kept (t' := s.toks) kp
    have I2 : Inv X pins σ (upd H h'.objs.size (.tup ys)) { s with heap := h'.push { cls := .type "tuple", data := .seq its.toArray } } :=
      I1.laid (t' := s.toks) (fun b o e => Heap.get?_push_of_some _ e) (Nat.le_refl _) (show ObjOk X.prog X.w _ _ _ (.tup ys) from ⟨hz, its, r', IsTup.new _ _⟩)
    exact ⟨.ref h'.objs.size, _, I2, rfl, q _ (I1.hok.fresh (Nat.le_refl _))⟩
  · obtain ⟨its, r', pl, hz⟩ := I.tuple hq
    exact call_tuple_same pl ⟨.ref p, H, I, rfl, q⟩

/-! ### the call of a builtin's method: o.m(..) -/
/-- the value is of that builtin type -/
def tyV (K : PySem.W.Frag) (T : String) (x : V) (H : Hp) : Prop := match x with
  | .str _ => T = "str"
  | .int _ => T = "int"
  | .ref p => (T = "list" ∧ ∃ xs, SqL K H p xs) ∨ (T = "tuple" ∧ ∃ o, K.lookup p = some o ∧ o.cls = .type "tuple" ∧ o.dict = none) ∨
      (T = "dict" ∧ ((∃ kvs, H p = some (.dK kvs)) ∨ ∃ kvs, H p = some (.dT kvs))) ∨ (T = "set" ∧ ∃ S n, H p = some (.set S n))
  | _ => False
theorem tyV_is {pins : List (Addr × Obj)} {σ : St} {H : Hp} {s : Shared} {T : String} {x : V} {v : Value} (I : Inv X pins σ H s) (r : RelV x v) (ty : tyV X.K T x H) :
    s.TypeIs v T ∧ ∀ a, v = .ref a → ∃ ob, s.heap.get? a = some ob ∧ ob.dict = none := by
  cases x with
  | str z =>
    obtain ⟨t, rfl⟩ := r
    cases (show T = "str" from ty)
    exact ⟨typeIs_str s z t, fun _ e => nomatch e⟩
  | int i =>
    obtain ⟨t, rfl⟩ := r
    cases (show T = "int" from ty)
    exact ⟨typeIs_int s i t, fun _ e => nomatch e⟩
  | ref p =>
    cases r
    rcases ty with ⟨rfl, xs, hq⟩ | ⟨rfl, o, hk, hc, hd⟩ | ⟨rfl, hk⟩ | ⟨rfl, S, n, hk⟩
    · obtain ⟨its, _, pl, _⟩ := I.list hq
      refine ⟨pl.isList.typeIs, fun a e => ?_⟩
      cases e
      obtain ⟨o, n, e, c, hd, _⟩ := pl
      exact ⟨o, e, hd⟩
    · refine ⟨⟨o, I.kIn p o hk, hc⟩, fun a e => ?_⟩
      cases e
      exact ⟨o, I.kIn _ o hk, hd⟩
    · have z : ∃ o, s.heap.get? p = some o ∧ o.ExactDict := by
        rcases hk with ⟨kvs, hk⟩ | ⟨kvs, hk⟩
        · obtain ⟨_, _, _, _, o, _, _, e, ex, _⟩ := I.hok p _ hk
          exact ⟨o, e, ex⟩
        · obtain ⟨_, _, _, _, o, _, _, e, ex, _⟩ := I.hok p _ hk
          exact ⟨o, e, ex⟩
      obtain ⟨o, e, ex⟩ := z
      refine ⟨⟨o, e, ex.1⟩, fun a e2 => ?_⟩
      cases e2
      exact ⟨o, e, ex.2.1⟩
    · obtain ⟨o, _, _, _, e, ex, _⟩ := I.hok p _ hk
      refine ⟨⟨o, e, ex.1⟩, fun a e2 => ?_⟩
      cases e2
      exact ⟨o, e, ex.2.1⟩
  | _ => exact False.elim ty
def tBM0 (K : PySem.W.Frag) (T : String) (r : V → List V → Hp → VK → Prop) (to : TE) : TE := fun σ H Q => to σ H fun x H1 => tyV K T x H1 ∧ r x [] H1 Q
def tBM (K : PySem.W.Frag) (T : String) (r : V → List V → Hp → VK → Prop) (to : TE) (t : TA) : TE := fun σ H Q => to σ H fun x H1 => tyV K T x H1 ∧ t σ H1 fun xs H2 => r x xs H2 Q
variable {o e : Expr} {es : List Expr} {to : TE} {t : TA} {name : Str} {apos cpos : Pos} {T id : String} {r : V → List V → Hp → VK → Prop}
theorem pe_bm0 (pa : PlainAttrs T) (slot : Slot T name id) (hty : typeOf (.builtin id) = pure (.type "method_descriptor")) (hm : MtR X id r) (ho : PE X o to)
    (hbase : attributeBase o name X.env (eval o X.env) = eval o X.env := by rfl) (hline : (apos.endLine == cpos.line) = true := by rfl) : PE X (.Call (.Attribute o name apos) [] [] cpos) (tBM0 X.K T r to) := by
  intro pins s σ H Q I h
  refine wpAny_Call_method0_late hbase hline (thn (ho pins s σ H _ I h) fun v s1 ⟨x, H1, I1, r1, ty, q1⟩ => ?_)
  obtain ⟨h1, h2⟩ := tyV_is I1 r1 ty
  exact ⟨T, id, pa, slot, hty, h1, h2, Calls.callWith_builtin rfl (PySem.evalArgs_none (hm pins s1 σ H1 x [] v [] Q I1 r1 .nil q1))⟩
theorem pe_bm (pa : PlainAttrs T) (slot : Slot T name id) (hty : typeOf (.builtin id) = pure (.type "method_descriptor")) (hm : MtR X id r) (ho : PE X o to) (ha : PA X (e :: es) t)
    (hbase : attributeBase o name X.env (eval o X.env) = eval o X.env := by rfl)
    (hfew : ((backTo cpos (starEach (e :: es) X.env)).all (fun x => !x.1) && (backToKw cpos (keywordEach [] X.env)).all (fun x => x.1.isSome)
      && decide ((e :: es).length + ([] : List Keyword).length + (if ([] : List Keyword).isEmpty then 0 else 1) < 30)) = true := by rfl)
    (hline : (apos.endLine == cpos.line) = true := by rfl) (hs : starEach (e :: es) X.env = (false, eval e X.env) :: starEach es X.env := by rfl) (hplain : (backTo cpos (starEach es X.env)).any (·.1) = false := by rfl) :
    PE X (.Call (.Attribute o name apos) (e :: es) [] cpos) (tBM X.K T r to t) := by
  intro pins s σ H Q I h
  refine wpAny_Call_method_late hbase hfew hline rfl (thn (ho pins s σ H _ I h) fun v s1 ⟨x, H1, I1, r1, ty, q1⟩ => ?_)
  obtain ⟨h1, h2⟩ := tyV_is I1 r1 ty
  refine ⟨T, id, pa, slot, hty, h1, h2, ?_⟩
  have hA := ha cpos pins s1 σ H1 _ I1 q1
  rw [hs] at hA ⊢
  refine Calls.callWith_builtin (by show (false || (backTo cpos (starEach es X.env)).any (·.1)) = false; rw [hplain] <;> rfl) (Calls.evalArgs_plain ?_)
  exact thn hA fun us s2 ⟨vs, H2, I2, r2, q2⟩ => hm pins s2 σ H2 x vs v us Q I2 r1 r2 q2
/- xs.append(e), list.index on a module's tuple .. are MtR facts of 06m -/
end
end L2

namespace L2
open PySem PySem.Spec PyProof.Rows

def MtM (X : Cx) (id : String) (r : V → List V → Hp → VK → Prop) : Prop :=
  ∀ (pins : List (Addr × Obj)) (s : Shared) (σ : St) (H : Hp) (x : V) (xs : List V) (v : Value) (us : List Value) (Q : VK), Inv X pins σ H s → RelV x v → Vals xs us → r x xs H Q →
    wpAny (model X.prog X.w) X.A (call (.builtin id) (v :: us)) (EP X pins σ Q) X.xe s

/-! ### lists of values -/
theorem Vals.one : ∀ {x : V} {us : List Value}, Vals [x] us → ∃ u, us = [u] ∧ RelV x u
  | _, _, .cons r .nil => ⟨_, rfl, r⟩
theorem Vals.two : ∀ {x y : V} {us : List Value}, Vals [x, y] us → ∃ u v, us = [u, v] ∧ RelV x u ∧ RelV y v
  | _, _, _, .cons r (.cons q .nil) => ⟨_, _, rfl, r, q⟩
theorem Vals.zero : ∀ {us : List Value}, Vals [] us → us = []
  | _, .nil => rfl
theorem Vals.dropLast {xs : List V} {us : List Value} (h : Vals xs us) : Vals xs.dropLast us.dropLast := by
  induction h with
  | nil => exact .nil
  | cons r t ih =>
    cases t with
    | nil => exact .nil
    | cons q t' => exact .cons r ih
theorem Vals.eraseIdx : ∀ {xs : List V} {us : List Value} (i : Nat), Vals xs us → Vals (xs.eraseIdx i) (us.eraseIdx i)
  | _, _, _, .nil => .nil
  | _, _, 0, .cons _ t => t
  | _, _, i + 1, .cons r t => .cons r (Vals.eraseIdx i t)
theorem Vals.reverse {xs : List V} {us : List Value} (h : Vals xs us) : Vals xs.reverse us.reverse := by
  induction h with
  | nil => exact .nil
  | cons r t ih => rw [List.reverse_cons, List.reverse_cons]; exact Vals.append ih (.cons r .nil)
theorem Vals.rep {xs : List V} {us : List Value} (h : Vals xs us) : ∀ k : Nat, Vals (List.replicate k xs).flatten (List.replicate k us).flatten
  | 0 => .nil
  | k + 1 => by
    rw [List.replicate_succ, List.replicate_succ, List.flatten_cons, List.flatten_cons]
    exact Vals.append h (Vals.rep h k)
theorem erase_last {α : Type} (l : List α) : l.eraseIdx (l.length - 1) = l.dropLast := by
  induction l with
  | nil => rfl
  | cons a r ih =>
    cases r with
    | nil => rfl
    | cons b r =>
      have e : (a :: b :: r).length - 1 = ((b :: r).length - 1) + 1 := by
        have h1 : (a :: b :: r).length = r.length + 2 := rfl
        have h2 : (b :: r).length = r.length + 1 := rfl
        omega
      rw [e, List.eraseIdx_cons_succ, ih]
      all_goals rfl
theorem len_erase {α : Type} : ∀ (l : List α) (i : Nat), (l.eraseIdx i).length ≤ l.length
  | [], _ => Nat.le_refl _
  | _ :: _, 0 => Nat.le_succ _
  | _ :: r, i + 1 => Nat.succ_le_succ (len_erase r i)
theorem foldl_rep (its : List Value) : ∀ (k : Nat) (acc : List Value),
    List.foldl (fun x1 x2 => x1 ++ x2) acc.toArray (List.replicate k its.toArray) = (acc ++ (List.replicate k its).flatten).toArray
  | 0, acc => by simp
  | k + 1, acc => by
    have e : acc.toArray ++ its.toArray = (acc ++ its).toArray := by simp
    have e2 : (acc ++ its) ++ (List.replicate k its).flatten = acc ++ (List.replicate (k + 1) its).flatten := by
      rw [List.replicate_succ, List.flatten_cons, List.append_assoc]
    rw [← e2, ← foldl_rep its k (acc ++ its), ← e, List.replicate_succ, List.foldl_cons]

section
variable {X : Cx} {pins : List (Addr × Obj)} {σ : St} {H : Hp} {s : Shared} {l b : Addr} {xs ys zs : List V}

/-! ### the two steps: a tracked list is rewritten, a new list is laid -/
theorem Inv.lset {its its' : List Value} {n : Nat} {f : Array Value → Array Value} {t' : Nat} (I : Inv X pins σ H s) (hH : H l = some (.lst xs))
    (e : s.heap.get? l = some { cls := .type "list", data := .seq its.toArray n }) (hf : f its.toArray = its'.toArray) (hv : Vals ys its') (hz : ys.length ≤ sizeLine) :
    Inv X pins σ (upd H l (.lst ys)) { s with heap := s.heap.update l (Obj.mapSeq f), toks := t' } := by
  have q := PySem.IsL.update e f
  rw [hf] at q
  refine I.write (x := l) (e := l) (by rw [hH]; exact trivial) (.inl rfl) (fun b' u hb hu => (Heap.get?_update_other s.heap (Obj.mapSeq f) (Ne.symm hb)).trans hu) ⟨_, q⟩ ?_
  exact ⟨hz, its', _, hv, q⟩
theorem Inv.lnew {its : List Value} {t' : Nat} (I : Inv X pins σ H s) (hv : Vals ys its) (hz : ys.length ≤ sizeLine) :
    Inv X pins σ (upd H s.heap.objs.size (.lst ys)) { s with heap := s.heap.push { cls := .type "list", data := .seq its.toArray }, toks := t' } :=
  I.laid (fun _ _ q => Heap.get?_push_of_some _ q) (Nat.le_refl _) ⟨hz, its, 0, hv, Heap.get?_push_size _ rfl⟩
theorem Inv.fresh (I : Inv X pins σ H s) : H s.heap.objs.size = none := I.hok.fresh (Nat.le_refl _)
theorem Inv.lstM (I : Inv X pins σ H s) (hH : H l = some (.lst xs)) : xs.length ≤ sizeLine ∧ ∃ (its : List Value) (n : Nat), Vals xs its ∧ xs.length = its.length ∧ s.heap.get? l = some { cls := .type "list", data := .seq its.toArray n } := by
  obtain ⟨z, its, n, r, e⟩ := I.hok l _ hH
  exact ⟨z, its, n, r, r.length, e⟩

theorem notLongL {n : Nat} (h : n ≤ sizeLine) : Builtin.List.listTooLong n = false := by
  unfold Builtin.List.listTooLong
  exact decide_eq_false (by omega)
end

section
variable {X : Cx}

/-! ### methods -/
def rAppend : V → List V → Hp → VK → Prop := fun x vs H Q => ∃ l xs y, x = .ref l ∧ vs = [y] ∧ H l = some (.lst xs) ∧ xs.length < sizeLine ∧ Q .non (upd H l (.lst (xs ++ [y])))
theorem mt_append : MtM X "list.append" rAppend := by
  intro pins s σ H x vs v us Q I rx rv h
  obtain ⟨l, xs, y, rfl, rfl, hH, hz, q⟩ := h
  cases rx
  obtain ⟨u, rfl, ru⟩ := rv.one
  obtain ⟨z, its, n, r, hl, e⟩ := I.lstM hH
  refine call_meets F.slot_list_append ⟨_, e, rfl⟩ F.entry_list_append (F.args_list_append_2 _ _) (PySem.list_append l its.toArray n u (by rw [List.size_toArray]; omega)) ⟨e, ?_⟩
  refine ⟨.non, _, I.lset (its' := its ++ [u]) hH e (by simp) (r.append (.cons ru .nil)) ?_, rfl, q⟩
  rw [List.length_append, List.length_singleton]
  omega

def rExtend : V → List V → Hp → VK → Prop := fun x vs H Q => ∃ l b xs zs, x = .ref l ∧ vs = [.ref b] ∧ H l = some (.lst xs) ∧ H b = some (.lst zs) ∧ xs.length + zs.length ≤ sizeLine ∧ Q .non (upd H l (.lst (xs ++ zs)))
theorem mt_extend : MtM X "list.extend" rExtend := by
  intro pins s σ H x vs v us Q I rx rv h
  obtain ⟨l, b, xs, zs, rfl, rfl, hH, hB, hz, q⟩ := h
  cases rx
  obtain ⟨u, rfl, ru⟩ := rv.one
  cases ru
  obtain ⟨z, its, n, r, hl, e⟩ := I.lstM hH
  obtain ⟨z2, its2, n2, r2, hl2, e2⟩ := I.lstM hB
  have hsz : its.toArray.size + its2.toArray.size ≤ sizeLine := by rw [List.size_toArray, List.size_toArray]; omega
  have hlong : ¬ (!its.toArray.isEmpty && Builtin.List.listTooLong (its.toArray.size + its2.toArray.size)) = true := by
    rw [notLongL hsz, Bool.and_false]
    exact Bool.false_ne_true
  refine call_meets F.slot_list_extend ⟨_, e, rfl⟩ F.entry_list_extend (F.args_list_extend_2 _ _)
    (AutoSeq1.list_extend_list_list_0 l its.toArray n b its2.toArray n2 hlong (by rw [List.size_toArray]; omega) (by omega)) ⟨e, e2, ?_⟩
  refine ⟨.non, _, I.lset (its' := its ++ its2) hH e (by simp) (r.append r2) ?_, rfl, q⟩
  rw [List.length_append]
  omega

def rPop : V → List V → Hp → VK → Prop := fun x vs H Q => ∃ l xs y, x = .ref l ∧ vs = [] ∧ H l = some (.lst xs) ∧ xs[xs.length - 1]? = some y ∧ Q y (upd H l (.lst xs.dropLast))
theorem mt_pop : MtM X "list.pop" rPop := by
  intro pins s σ H x vs v us Q I rx rv h
  obtain ⟨l, xs, y, rfl, rfl, hH, hy, q⟩ := h
  cases rx
  have hus := rv.zero
  subst hus
  obtain ⟨z, its, n, r, hl, e⟩ := I.lstM hH
  obtain ⟨u, hu, ru⟩ := r.get hy
  have hy' : its.toArray[its.toArray.size - 1]? = some u := by
    show its.toArray[its.length - 1]? = some u
    rw [← Array.getElem?_toList, ← hl]
    exact hu
  refine call_meets F.slot_list_pop ⟨_, e, rfl⟩ F.entry_list_pop (F.args_list_pop_1 _) (MeetsSeq.list_pop_last l its.toArray n u hy' (by rw [List.size_toArray]; omega)) ⟨e, ?_⟩
  refine ⟨y, _, I.lset (its' := its.dropLast) hH e ?_ r.dropLast ?_, ru, q⟩
  · show its.toArray.eraseIdxIfInBounds (its.toArray.size - 1) = its.dropLast.toArray
    rw [List.size_toArray, List.eraseIdxIfInBounds_toArray, erase_last]
  · rw [List.length_dropLast]
    omega

def rPopAt : V → List V → Hp → VK → Prop := fun x vs H Q => ∃ l xs i k y, x = .ref l ∧ vs = [.int i] ∧ H l = some (.lst xs) ∧ -(2 ^ 63) ≤ i ∧ i < 2 ^ 63 ∧ seqIndex? i xs.length = some k ∧ xs[k]? = some y ∧ Q y (upd H l (.lst (xs.eraseIdx k)))
theorem mt_popAt : MtM X "list.pop" rPopAt := by
  intro pins s σ H x vs v us Q I rx rv h
  obtain ⟨l, xs, i, k, y, rfl, rfl, hH, h1, h2, hk, hy, q⟩ := h
  cases rx
  obtain ⟨u, rfl, ru⟩ := rv.one
  obtain ⟨t, rfl⟩ := ru
  obtain ⟨z, its, n, r, hl, e⟩ := I.lstM hH
  obtain ⟨w, hw, rw'⟩ := r.get hy
  refine call_meets F.slot_list_pop ⟨_, e, rfl⟩ F.entry_list_pop (F.args_list_pop_2 _ _)
    (MeetsSeq.list_pop_at l its.toArray n i t k w (fitsIndex_both h1 h2) (by rw [List.size_toArray, ← hl]; exact hk) (by rw [← Array.getElem?_toList]; exact hw) (by rw [List.size_toArray]; omega)) ⟨e, ?_⟩
  refine ⟨y, _, I.lset (its' := its.eraseIdx k) hH e ?_ (r.eraseIdx k) ?_, rw', q⟩
  · show its.toArray.eraseIdxIfInBounds k = (its.eraseIdx k).toArray
    rw [List.eraseIdxIfInBounds_toArray]
  · have := len_erase xs k
    omega

def rReverse : V → List V → Hp → VK → Prop := fun x vs H Q => ∃ l xs, x = .ref l ∧ vs = [] ∧ H l = some (.lst xs) ∧ Q .non (upd H l (.lst xs.reverse))
theorem mt_reverse : MtM X "list.reverse" rReverse := by
  intro pins s σ H x vs v us Q I rx rv h
  obtain ⟨l, xs, rfl, rfl, hH, q⟩ := h
  cases rx
  have hus := rv.zero
  subst hus
  obtain ⟨z, its, n, r, hl, e⟩ := I.lstM hH
  refine call_meets F.slot_list_reverse ⟨_, e, rfl⟩ F.entry_list_reverse (F.args_list_reverse_1 _) (AutoSeq1.list_reverse_list_0 l its.toArray n (by rw [List.size_toArray]; omega)) ⟨e, ?_⟩
  refine ⟨.non, _, I.lset (its' := its.reverse) hH e (by simp) r.reverse ?_, rfl, q⟩
  rw [List.length_reverse]
  omega

def rClear : V → List V → Hp → VK → Prop := fun x vs H Q => ∃ l xs, x = .ref l ∧ vs = [] ∧ H l = some (.lst xs) ∧ Q .non (upd H l (.lst []))
theorem mt_clear : MtM X "list.clear" rClear := by
  intro pins s σ H x vs v us Q I rx rv h
  obtain ⟨l, xs, rfl, rfl, hH, q⟩ := h
  cases rx
  have hus := rv.zero
  subst hus
  obtain ⟨z, its, n, r, hl, e⟩ := I.lstM hH
  refine call_meets F.slot_list_clear ⟨_, e, rfl⟩ F.entry_list_clear (F.args_list_clear_1 _) (AutoSeq1.list_clear_list_0 l its.toArray n (by rw [List.size_toArray]; omega)) ⟨e, ?_⟩
  exact ⟨.non, _, I.lset (its' := []) (ys := []) hH e rfl .nil (Nat.zero_le _), rfl, q⟩

/-! ### list + list, list += list, list * int -/
def rCat : R2 := fun x y H Q => ∃ l b xs zs, x = .ref l ∧ y = .ref b ∧ H l = some (.lst xs) ∧ H b = some (.lst zs) ∧ xs.length + zs.length ≤ sizeLine ∧ ∀ p, H p = none → Q (.ref p) (upd H p (.lst (xs ++ zs)))
theorem op_cat : OpR X (binaryOp .Add) rCat := by
  intro pins s σ H x y v u Q I rx ry h
  obtain ⟨l, b, xs, zs, rfl, rfl, hH, hB, hz, q⟩ := h
  cases rx
  cases ry
  obtain ⟨z, its, n, r, hl, e⟩ := I.lstM hH
  obtain ⟨z2, its2, n2, r2, hl2, e2⟩ := I.lstM hB
  refine PySem.P.add_list e e2 ?_ (by rw [List.size_toArray, List.size_toArray]; omega)
  have ea : its.toArray ++ its2.toArray = (its ++ its2).toArray := by simp
  rw [ea]
  exact ⟨.ref _, _, I.lnew (t' := s.toks) (r.append r2) (by rw [List.length_append]; omega), rfl, q _ I.fresh⟩
/-- a list times an int (a negative one is nothing) -/
def rRep : R2 := fun x y H Q => ∃ l k xs, x = .ref l ∧ y = .int k ∧ H l = some (.lst xs) ∧ -(2 ^ 63) ≤ k ∧ k < 2 ^ 63 ∧ xs.length * k.toNat ≤ sizeLine ∧
  ∀ p, H p = none → Q (.ref p) (upd H p (.lst (List.replicate k.toNat xs).flatten))
theorem len_rep {α : Type} (xs : List α) (k : Nat) : (List.replicate k xs).flatten.length = k * xs.length := by
  induction k with
  | zero => simp
  | succ k ih => rw [List.replicate_succ, List.flatten_cons, List.length_append, ih, Nat.succ_mul, Nat.add_comm]
theorem op_rep : OpR X (binaryOp .Mult) rRep := by
  intro pins s σ H x y v u Q I rx ry h
  obtain ⟨l, k, xs, rfl, rfl, hH, h1, h2, hz, q⟩ := h
  cases rx
  obtain ⟨t, rfl⟩ := ry
  obtain ⟨z, its, n, r, hl, e⟩ := I.lstM hH
  have hlen : its.toArray.size * k.toNat ≤ sizeLine := by rw [List.size_toArray, ← hl]; exact hz
  have hcap : ¬ its.toArray.size * k.toNat > (2 ^ 63 - 1) / 8 := by
    have : (sizeLine : Nat) ≤ (2 ^ 63 - 1) / 8 := by decide
    omega
  have hfit : ¬ (!Builtin.List.listFitsIndex k) = true := by
    rw [fitsIndex_both h1 h2]
    exact Bool.false_ne_true
  have hlong : ¬ Builtin.List.listTooLong (its.toArray.size * k.toNat) = true := by
    rw [notLongL hlen]
    exact Bool.false_ne_true
  have hnew : List.foldl (fun x1 x2 => x1 ++ x2) #[] (List.replicate (if its.toArray.isEmpty = true then 0 else k.toNat) its.toArray) = (List.replicate k.toNat its).flatten.toArray := by
    have f0 : ∀ m : Nat, List.foldl (fun x1 x2 => x1 ++ x2) #[] (List.replicate m its.toArray) = (List.replicate m its).flatten.toArray := fun m => by
      have := foldl_rep its m []
      rw [List.nil_append] at this
      exact this
    rw [f0]
    cases its with
    | nil => simp
    | cons a r' => rw [if_neg (by simp)]
  refine wpAny_binaryOp_repeat_ref (T := "list") (U := "int") (by decide) ⟨_, e, rfl⟩ (fun s' => typeIs_int s' k t) noFill_list_mul F.fills_int_mul F.slot_int_rmul repeat_list F.slot_int_index.lookup
    (call_meets F.slot_int_rmul (typeIs_int s k t) F.entry_int_rmul (F.args_int_rmul_2 _ _) (int___rmul___int_list k t l its.toArray n)
      ⟨e, rfl, ⟨_, e, rfl⟩, call_meets F.slot_list_mul ⟨_, e, rfl⟩ F.entry_list_mul (F.args_list_mul_2 _ _) (AutoListH.list___mul___list_int_3 l its.toArray n k t hfit hcap hlong) ⟨e, ?_⟩⟩)
  rw [hnew]
  exact ⟨.ref _, _, I.lnew (t' := s.toks) (r.rep k.toNat) (by rw [len_rep, Nat.mul_comm]; exact hz), rfl, q _ I.fresh⟩

/-! ### del xs[i] -/
theorem del_list {pins : List (Addr × Obj)} {s : Shared} {σ : St} {H : Hp} {l : Addr} {xs : List V} {i : Int} {t : Tok} {k : Nat} {Q : Unit → Shared → Prop} (I : Inv X pins σ H s) (hH : H l = some (.lst xs))
    (h1 : -(2 ^ 63) ≤ i) (h2 : i < 2 ^ 63) (hk : seqIndex? i xs.length = some k) (h : ∀ s', Inv X pins σ (upd H l (.lst (xs.eraseIdx k))) s' → Q () s') :
    wpAny (model X.prog X.w) X.A (delItem (.ref l) (.int i t)) Q X.xe s := by
  obtain ⟨z, its, n, r, hl, e⟩ := I.lstM hH
  refine PySem.P.delItem_list (k := k) e (fitsIndex_both h1 h2) (by rw [List.size_toArray, ← hl]; exact hk) (h _ ?_) (by rw [List.size_toArray]; omega)
  refine I.lset (its' := its.eraseIdx k) (t' := s.toks) hH e ?_ (r.eraseIdx k) ?_
  · show its.toArray.eraseIdxIfInBounds k = (its.eraseIdx k).toArray
    rw [List.eraseIdxIfInBounds_toArray]
  · have := len_erase xs k
    omega
end

/-! ### xs[a:b] = ys -/
section
variable {prog : Program} {w : World} {A : Around} {E : Value → Shared → Prop} {s : Shared}
theorem splice_eq (its its2 : List Value) (a c : Nat) : its.toArray.extract 0 a ++ its2.toArray ++ its.toArray.extract c its.toArray.size = (its.take a ++ its2 ++ its.drop c).toArray := by
  apply Array.toList_inj.mp
  first
    | (simp
       exact List.take_of_length_le (by simp))
    | simp [List.take_of_length_le]
    | simp
theorem bounds_run {a c n : Nat} (hac : a ≤ c) (hc : c ≤ n) : sliceBounds (some (a : Int)) (some (c : Int)) none n = ((a : Int), (c : Int), 1) := by
  simp only [sliceBounds, Option.getD_none]
  have h1 : ¬ ((a : Int) < 0) := by omega
  have h2 : ¬ ((c : Int) < 0) := by omega
  simp only [h1, h2, if_false, show (1 : Int) > 0 by decide, if_true]
  congr 1
  · omega
  · congr 1; omega
set_option maxRecDepth 100000 in
/-- list.__setitem__ with a slice of step one and another list -/
theorem setItem_slice {l b sl : Addr} {items new : Array Value} {n n2 : Nat} {vl vu : Value} {a c : Nat} {Q : Unit → Shared → Prop}
    (e : s.heap.get? l = some { cls := .type "list", data := .seq items n }) (e2 : s.heap.get? b = some { cls := .type "list", data := .seq new n2 }) (hne : l ≠ b)
    (hs : s.heap.IsSliceOf sl vl vu .none) (pl : IsPart vl (some (a : Int))) (pu : IsPart vu (some (c : Int))) (hac : a ≤ c) (hc : c ≤ items.size)
    (hsz : items.size + new.size ≤ sizeLine) (h : Q () { s with heap := s.heap.update l (Obj.mapSeq fun xs => xs.extract 0 a ++ new ++ xs.extract c xs.size) }) :
    wpAny (model prog w) A (setItem (.ref l) (.ref sl) (.ref b)) Q E s := by
  have hl : s.heap.IsList l items := PySem.IsL.isList e
  have hb : s.heap.IsList b new := PySem.IsL.isList e2
  obtain ⟨os, hos, hcs, hds⟩ := id hs
  have hTs : s.TypeIs (.ref sl) "slice" := ⟨os, hos, hcs⟩
  have hstep : ¬ ((rawPart none == rawInt 0) = true) := Bool.false_ne_true
  have hsame : Builtin.List.listSameRef (.ref l) (.ref b) = false := by
    unfold Builtin.List.listSameRef
    exact beq_eq_false_iff_ne.mpr hne
  have hmax : (max (a : Int) (c : Int)).toNat = c := by omega
  have hz' : ((fun xs : Array Value => xs.extract 0 a ++ new ++ xs.extract c xs.size) items).size ≤ sizeLine + 1 := by
    simp only [Array.size_append, Array.size_extract]
    omega
  unfold setItem
  try with_reducible refine wpAny_holding ?_
  first | refine wpAny_bind (wpAny_pure ?_) | skip
  refine wpAny_bind (wpAny_sequenceKey hl.typeIs (by decide) ?_)
  refine wpAny_bind (wpAny_callSpecial?_slot (name := Str.ofString "__setitem__") hl.typeIs slot_list_setitem
    (wpAny_call_entry slot_list_setitem hl.typeIs entry_list_setitem ?_ (args_list_setitem _ _ _)))
  show wpAny _ _ (Builtin.List.listSubscript? (.ref sl) >>= _) _ _ s
  refine wpAny_bind ?_
  unfold Builtin.List.listSubscript?
  refine wpAny_bind (wpAny_specialOf hTs slice_no_index ?_)
  simp only [Option.isNone_none, if_true]
  refine wpAny_pure ?_
  show wpAny _ _ (typeOf (.ref sl) >>= _) _ _ s
  refine wpAny_bind (wpAny_typeOf hTs ?_)
  first
    | rw [if_neg (by decide)]
    | refine PySem.W.KFB.if_not (by decide) ?_
  rw [listSliceParts_eq]
  refine wpAny_bind (wpAny_bind (wpAny_field hos hds (x := .none) rfl (wpAny_bind (wpAny_listPart .none ?_))))
  rw [if_neg hstep]
  refine wpAny_bind (wpAny_field hos hds (x := vl) rfl (wpAny_bind (wpAny_listPart pl ?_)))
  refine wpAny_bind (wpAny_field hos hds (x := vu) rfl (wpAny_bind (wpAny_listPart pu (wpAny_pure ?_))))
  first
    | simp only [hsame, Bool.false_eq_true, if_false]
    | refine PySem.W.KFB.if_not hsame ?_
    | (dsimp only
       rw [if_neg (by rw [hsame]; exact Bool.false_ne_true)])
  refine wpAny_bind (m := Builtin.List.listAllItems (.ref b) "must assign iterable to extended slice") ?_
  unfold Builtin.List.listAllItems
  refine wpAny_bind (wpAny_typeOf hb.typeIs ?_)
  first
    | refine PySem.W.KFB.if_so (by decide) ?_
    | rw [if_pos (by decide)]
    | simp only [beq_self_eq_true, Bool.true_or, if_true]
  unfold Builtin.List.listItems
  refine wpAny_bind (wpAny_seqItems e2 rfl (wpAny_pure ?_))
  refine wpAny_bind (wpAny_bind (wpAny_seqItems e rfl (wpAny_pure ?_)))
  refine wpAny_bind (wpAny_of_eq ((sliceIndices_raw (some (a : Int)) (some (c : Int)) none items.size (by simp)).trans (congrArg (pure : Int × Int × Int → Sem (Int × Int × Int)) (bounds_run hac hc))) ?_)
  show wpAny _ _ (if ((1 : Int) == 1) = true then _ else _) _ _ s
  rw [if_pos (by decide)]
  refine wpAny_bind (wpAny_rule ?_)
  first
    | simp only [notLongL hsz, Bool.false_eq_true, if_false]
    | refine PySem.W.KFB.if_not (notLongL hsz) ?_
  first | refine wpAny_bind (wpAny_pure ?_) | skip
  show wpAny _ _ (updateSeq l (fun xs => xs.extract 0 ((a : Int)).toNat ++ new ++ xs.extract (max (a : Int) (c : Int)).toNat xs.size) >>= _) _ _ s
  rw [hmax, Int.toNat_natCast]
  refine wpAny_bind (wpAny_updateSeq (hz := Nat.le_trans (Nat.le_add_right _ _) hsz) (_hz' := hz') e rfl ?_)
  refine wpAny_bind (wpAny_letGo ?_)
  first
    | exact wpAny_bind (wpAny_pure (wpAny_pure ⟨.none, rfl, wpAny_pure h⟩))
    | exact wpAny_pure ⟨.none, rfl, wpAny_pure h⟩
end

section
variable {X : Cx}
/-- xs[a:c] = ys of another list, at the value level: sl is the slice object that was just made -/
theorem set_slice {pins : List (Addr × Obj)} {s : Shared} {σ : St} {H : Hp} {l b sl : Addr} {xs ys : List V} {a c : Int} {vl vu : Value} {Q : Unit → Shared → Prop} (I : Inv X pins σ H s)
    (hH : H l = some (.lst xs)) (hB : H b = some (.lst ys)) (hne : l ≠ b) (hs : s.heap.IsSliceOf sl vl vu .none) (ra : RelV (.int a) vl) (rc : RelV (.int c) vu) (h0 : 0 ≤ a) (hac : a ≤ c) (hc : c ≤ xs.length)
    (hz : xs.length + ys.length ≤ sizeLine) (h : ∀ s', Inv X pins σ (upd H l (.lst (xs.take a.toNat ++ ys ++ xs.drop c.toNat))) s' → Q () s') :
    wpAny (model X.prog X.w) X.A (setItem (.ref l) (.ref sl) (.ref b)) Q X.xe s := by
  obtain ⟨ta, rfl⟩ := ra
  obtain ⟨tc, rfl⟩ := rc
  obtain ⟨z, its, n, r, hl, e⟩ := I.lstM hH
  obtain ⟨z2, its2, n2, r2, hl2, e2⟩ := I.lstM hB
  obtain ⟨a', rfl⟩ := Int.eq_ofNat_of_zero_le h0
  obtain ⟨c', rfl⟩ := Int.eq_ofNat_of_zero_le (Int.le_trans h0 hac)
  simp only [Int.toNat_natCast] at h
  refine setItem_slice (a := a') (c := c') e e2 hne hs (.int _ _) (.int _ _) (by omega) (by rw [List.size_toArray]; omega) (by rw [List.size_toArray, List.size_toArray]; omega) (h _ ?_)
  refine I.lset (its' := its.take a' ++ its2 ++ its.drop c') (t' := s.toks) hH e ?_ (Vals.append (Vals.append (r.take _) r2) (r.drop _)) ?_
  · exact splice_eq its its2 a' c'
  · rw [List.length_append, List.length_append, List.length_take, List.length_drop]
    omega
end
end L2

namespace Att
open PySem PySem.W PySem.Calls PyProof.Rows

/-! ### the script -/
theorem ints_of_wellAll {P : Params} {h : Heap} : ∀ (ns : List Int) (vs : List Value), WellAll P h vs (ns.map WData.int) → IntsAre vs ns := by
  intro ns
  induction ns with
  | nil =>
    intro vs w
    rw [List.map_nil] at w
    cases w
    exact .nil
  | cons n ns ih =>
    intro vs w
    rw [List.map_cons] at w
    cases w with
    | cons a b =>
      cases a
      exact .cons _ _ (ih _ b)

theorem script_of {l : OpenLaw} {n : Nat} (hn : l.most = some n) {P : Params} {h : Heap} {args : List WData} {vals : List Value}
    (hpre : l.row.toRowW.claim.pre args = true) (hwl : WellAll P h vals args) :
    ∃ a vs ns, vals = [Value.ref a] ∧ args = [WData.list (ns.map WData.int)] ∧ h.get? a = some { cls := .type "list", data := .seq vs.toArray } ∧ IntsAre vs ns ∧ ns.length ≤ n := by
  have hsh : WShape.hasAll [] args [.list .int] = true := (pre_splitW hpre).1
  have hc : l.pre.holds [] { args := args } = true := (pre_splitW hpre).2
  obtain ⟨d, r, rfl, h1, h2⟩ := hasAllW_cons hsh
  obtain rfl := hasAllW_nil h2
  obtain ⟨xs, rfl, h3⟩ := hasW_list h1
  obtain ⟨ns, rfl⟩ := items_int h3
  have hlen : ns.length ≤ n := by
    unfold OpenLaw.pre at hc
    have h4 : (WTm.not (.lt (.lit (.int (n : Int))) (.len (.arg 0)))).holds [] { args := [.list (ns.map .int)] } = true := by
      have h4 := (holds_andW hc).1
      rw [hn] at h4
      exact h4
    have h5 := condW_of h4 (w_not (w_lt w_lit (w_len_list (w_arg rfl))))
    rw [List.length_map] at h5
    refine Nat.le_of_not_lt fun q => ?_
    have q' : (n : Int) < ((ns.length : Nat) : Int) := by omega
    first
      | (rw [decide_eq_true q'] at h5; exact absurd h5 (by decide))
      | (simp at h5; omega)
  cases hwl with
  | cons w1 w2 =>
    cases w2
    cases w1 with
    | list ho hall => exact ⟨_, _, ns, rfl, rfl, ho, ints_of_wellAll ns _ hall, hlen⟩

theorem post_true (l : OpenLaw) (args : List WData) : l.row.toRowW.claim.post args (.bool true) args = true :=
  postW_of (r := l.row.toRowW) (X := (true == true))
    (show WShape.has [] (.bool true) .bool = true by first | rfl | decide | simp [WShape.has, WShape.arms, WShape.armsAll])
    (show (WTm.eq .res (.lit (.bool true))).value [] { args := args, res := some (.bool true), after := args } = some (.bool (true == true)) from w_eq_bool (w_res rfl) w_lit) rfl

/-! ### the attachment: holds_open's last premise (the goal 'hc' behind k_head) from a wpAny of the law's body -/
theorem attach {l : OpenLaw} {n : Nat} {q : Program} {loose : List Str} {XP : (Str → Option Value) → Heap → Prop} {YP : World → Heap → Prop} {d : DefRec} {x : Str}
    (hn : l.most = some n) (hdf : d.params.defaults = [])
    (hbind : ∀ pm cd doc v : Value, bindArgs (docDef d.name d.params d.body d.scope pm cd doc) ⟨[v], []⟩ = pure [(x, v)])
    (hx : d.scope.names.lookup x = some .local ∨ d.scope.names.lookup x = some .cell)
    (hk : d.scope.kind = .function) (hco : d.scope.isCoroutine = false) (hgen : d.scope.isGenerator = false)
    (body : ∀ (w : World) (s₀ s₁ s : Shared) (mg mb : Str → Option Value) (fa : Addr) (o : Obj) (pm cd doc : Value) (a : Addr) (vs : List Value) (ns : List Int),
      Ground q loose [] XP w s₀ mg mb s₁.heap → YP w s₁.heap →
      s₁.heap.get? fa = some o → o.data = .func (docDef d.name d.params d.body d.scope pm cd doc) → s₁.heap.CodeRec cd d.name → mg d.name = some (.ref fa) →
      s₁.heap.get? a = some { cls := .type "list", data := .seq vs.toArray } → IntsAre vs ns → ns.length ≤ n →
      s.gens = #[] → s.os = s₁.os →
      Fr s₁.heap s₁.heap.objs.size s.heap (bindL (envOfC d.name d.scope s₁.heap.objs.size fa cd).kindOf [(x, .ref a)] fun _ => none) →
      Cl s₁.heap.objs.size (cellsFrom (s₁.heap.objs.size + 1) d.scope.names []) s.heap (bindC (envOfC d.name d.scope s₁.heap.objs.size fa cd).kindOf [(x, .ref a)] fun _ => none) →
      wpAny (model l.prog w) (callerA.deeper (envOfC d.name d.scope s₁.heap.objs.size fa cd)) (execs d.body (envOfC d.name d.scope s₁.heap.objs.size fa cd))
        (fun f s' => f = .ret (.bool true) ∧ OldK s₁.heap s'.heap ∧ s'.os = s₁.os ∧ AllBare s'.gens) (fun _ _ => False) s) :
    WalkO q loose XP YP l.row.toRowW d [] (fun f vs => PySem.call f vs) := by
  intro w s₀ s₁ mg mb G Y fa o pm cd doc dV kV ho hd hcd hD hmg hg args vals as hpre hlay hrd hwl hlo
  obtain rfl : dV = .none := Dflts.none hD hdf
  obtain rfl : kV = .none := Dflts.noKw hD
  obtain ⟨a, vs, ns, rfl, rfl, hobj, hints, hlen⟩ := script_of hn hpre hwl
  refine enter_call ?_
  refine call_cells_ret (o := o) (by rw [depth_caller]; decide) ho (fd_plain hd) G.T.nolimit hcd (hbind pm cd doc (.ref a)) (fun y hy => ?_) (fun h₁ tk F X => ?_) hco hgen hk
  · obtain rfl : y = (x, Value.ref a) := List.mem_singleton.mp hy
    rcases hx with e | e
    · exact .inl e
    · exact .inr ⟨e, cellsFrom_some _ _ _ (.inl e)⟩
  · refine wpAny_mono (body w s₀ s₁ { s₁ with heap := h₁, toks := tk } mg mb fa o pm cd doc a vs ns G Y ho (fd_plain hd) hcd hmg hobj hints hlen hg rfl F X) (fun f s' hq => ?_) (fun _ _ hq => hq)
    obtain ⟨rfl, h2, h3, h4⟩ := hq
    exact ⟨.inl ⟨.bool true, .bool true, [], rfl, fun _ => rfl, .bool true, post_true l _, fun _ => ⟨List.Pairwise.nil, fun _ hm => (nomatch hm)⟩⟩, h2, h3, h4⟩

/-- the same from a codeAny of the CALL (for a layer whose function contracts speak of calls) -/
theorem attach_call {l : OpenLaw} {n : Nat} {q : Program} {loose : List Str} {XP : (Str → Option Value) → Heap → Prop} {YP : World → Heap → Prop} {d : DefRec}
    (hn : l.most = some n) (hdf : d.params.defaults = [])
    (call : ∀ (w : World) (s₀ s₁ : Shared) (mg mb : Str → Option Value) (fa : Addr) (o : Obj) (pm cd doc : Value) (a : Addr) (vs : List Value) (ns : List Int),
      Ground q loose [] XP w s₀ mg mb s₁.heap → YP w s₁.heap →
      s₁.heap.get? fa = some o → o.data = .func (docDef d.name d.params d.body d.scope pm cd doc) → s₁.heap.CodeRec cd d.name → mg d.name = some (.ref fa) →
      s₁.heap.get? a = some { cls := .type "list", data := .seq vs.toArray } → IntsAre vs ns → ns.length ≤ n → s₁.gens = #[] →
      codeAny (model l.prog w) callerA (.call (.ref fa) ⟨[.ref a], []⟩) (fun r s' => r = .ok (.ret (.bool true)) ∧ OldK s₁.heap s'.heap ∧ s'.os = s₁.os ∧ AllBare s'.gens) s₁) :
    WalkO q loose XP YP l.row.toRowW d [] (fun f vs => PySem.call f vs) := by
  intro w s₀ s₁ mg mb G Y fa o pm cd doc dV kV ho hd hcd hD hmg hg args vals as hpre hlay hrd hwl hlo
  obtain rfl : dV = .none := Dflts.none hD hdf
  obtain rfl : kV = .none := Dflts.noKw hD
  obtain ⟨a, vs, ns, rfl, rfl, hobj, hints, hlen⟩ := script_of hn hpre hwl
  refine enter_call (codeAny_mono (call w s₀ s₁ mg mb fa o pm cd doc a vs ns G Y ho (fd_plain hd) hcd hmg hobj hints hlen hg) fun r s' hq => ?_)
  obtain ⟨rfl, h2, h3, h4⟩ := hq
  exact ⟨.inl ⟨.bool true, .bool true, [], rfl, fun _ => rfl, .bool true, post_true l _, fun _ => ⟨List.Pairwise.nil, fun _ hm => (nomatch hm)⟩⟩, h2, h3, h4⟩

/-- the same where the top left finished generators (o_head chose holds_openN): nothing may have changed at all and no generator may be left -/
theorem attachN {l : OpenLaw} {n : Nat} {q : Program} {loose : List Str} {XP : (Str → Option Value) → Heap → Prop} {YP : World → Heap → Prop} {d : DefRec} {x : Str}
    (hn : l.most = some n) (hdf : d.params.defaults = [])
    (hbind : ∀ pm cd doc v : Value, bindArgs (docDef d.name d.params d.body d.scope pm cd doc) ⟨[v], []⟩ = pure [(x, v)])
    (hx : d.scope.names.lookup x = some .local ∨ d.scope.names.lookup x = some .cell)
    (hk : d.scope.kind = .function) (hco : d.scope.isCoroutine = false) (hgen : d.scope.isGenerator = false)
    (body : ∀ (w : World) (s₀ s₁ s : Shared) (mg mb : Str → Option Value) (fa : Addr) (o : Obj) (pm cd doc : Value) (a : Addr) (vs : List Value) (ns : List Int),
      Ground q loose [] XP w s₀ mg mb s₁.heap → YP w s₁.heap →
      s₁.heap.get? fa = some o → o.data = .func (docDef d.name d.params d.body d.scope pm cd doc) → s₁.heap.CodeRec cd d.name → mg d.name = some (.ref fa) →
      s₁.heap.get? a = some { cls := .type "list", data := .seq vs.toArray } → IntsAre vs ns → ns.length ≤ n →
      s.gens = #[] → s.os = s₁.os →
      Fr s₁.heap s₁.heap.objs.size s.heap (bindL (envOfC d.name d.scope s₁.heap.objs.size fa cd).kindOf [(x, .ref a)] fun _ => none) →
      Cl s₁.heap.objs.size (cellsFrom (s₁.heap.objs.size + 1) d.scope.names []) s.heap (bindC (envOfC d.name d.scope s₁.heap.objs.size fa cd).kindOf [(x, .ref a)] fun _ => none) →
      wpAny (model l.prog w) (callerA.deeper (envOfC d.name d.scope s₁.heap.objs.size fa cd)) (execs d.body (envOfC d.name d.scope s₁.heap.objs.size fa cd))
        (fun f s' => f = .ret (.bool true) ∧ (∀ b o, s₁.heap.get? b = some o → s'.heap.get? b = some o) ∧ s'.os = s₁.os ∧ s'.gens = #[]) (fun _ _ => False) s) :
    WalkN q loose XP YP l.row.toRowW d [] (fun f vs => PySem.call f vs) := by
  intro w s₀ s₁ mg mb G Y fa o pm cd doc dV kV ho hd hcd hD hmg hg args vals as hpre hlay hrd hwl hlo
  obtain rfl : dV = .none := Dflts.none hD hdf
  obtain rfl : kV = .none := Dflts.noKw hD
  obtain ⟨a, vs, ns, rfl, rfl, hobj, hints, hlen⟩ := script_of hn hpre hwl
  refine enter_callW ?_
  refine call_cells_ret (o := o) (by rw [depth_caller]; decide) ho (fd_plain hd) G.T.nolimit hcd (hbind pm cd doc (.ref a)) (fun y hy => ?_) (fun h₁ tk F X => ?_) hco hgen hk
  · obtain rfl : y = (x, Value.ref a) := List.mem_singleton.mp hy
    rcases hx with e | e
    · exact .inl e
    · exact .inr ⟨e, cellsFrom_some _ _ _ (.inl e)⟩
  · refine wpAny_mono (body w s₀ s₁ { s₁ with heap := h₁, toks := tk } mg mb fa o pm cd doc a vs ns G Y ho (fd_plain hd) hcd hmg hobj hints hlen hg rfl F X) (fun f s' hq => ?_) (fun _ _ hq => hq)
    obtain ⟨rfl, h2, h3, h4⟩ := hq
    exact ⟨.inl ⟨.bool true, .bool true, [], rfl, fun _ => rfl, .bool true, post_true l _, fun _ => ⟨List.Pairwise.nil, fun _ hm => (nomatch hm)⟩⟩, h2, h3, h4⟩

/-! ### rules over ANY heap (no ledger) from facts about the written part K: the library's own take a ledger (News) for what they write -/
section
variable {prog : Program} {w : World} {A : Around} {E : Value → Shared → Prop} {s : Shared} {K : Frag}

/-- a def of the module, or a method (qual 'C.m'), entered: the frame is the next address; cells behind it -/
theorem call_fn {R : Result → Shared → Prop} {name qual : Str} {params : Arguments} {body : List Stmt} {scope : Scope} {dV kV doc pm cdv ct oc : Value} {an od : Option Addr} {osl : Array (Option Value)} {f : Addr} {args : Args} {binds : List (Str × Value)}
    (X : K.In s.heap) (hlim : s.heap.NoLimit) (ho : K.lookup f = some ⟨oc, od, .func (fnOf name qual params body scope dV kV doc pm an cdv ct), osl⟩) (hcd : codeIn K cdv qual = true) (hroom : A.depth < recursionLimit)
    (hbind : BindsTo s (fnOf name qual params body scope dV kV doc pm an cdv ct) args binds)
    (hkind : (binds.all fun y => scope.names.lookup y.1 == some .local || scope.names.lookup y.1 == some .cell) = true)
    (h : ∀ s₁, InCallC s s.heap.objs.size (bindL (envOfC qual scope s.heap.objs.size f cdv).kindOf binds fun _ => none) (cellsFrom (s.heap.objs.size + 1) scope.names [])
        (bindC (envOfC qual scope s.heap.objs.size f cdv).kindOf binds fun _ => none) s₁ →
      wpAny (model prog w) (A.deeper (envOfC qual scope s.heap.objs.size f cdv)) (execs body (envOfC qual scope s.heap.objs.size f cdv))
        (fun fl s' => R (.ok (.ret (match fl with | .ret v => v | _ => .none))) s')
        (fun e s' => wpAny (model prog w) (A.deeper (envOfC qual scope s.heap.objs.size f cdv)) (leaving (envOfC qual scope s.heap.objs.size f cdv) e) (fun _ s'' => R (.error e) s'') (fun e' s'' => R (.error e') s'') s') s₁)
    (hco : scope.isCoroutine = false) (hgen : scope.isGenerator = false) (hk : scope.kind = .function) : codeAny (model prog w) A (.call (.ref f) args) R s := by
  refine codeAny_call_function hroom (X _ _ ho) rfl hco hgen rfl (codeRec_of X hcd) (hbind _ _ _ _ ?_)
  refine wpAny_newFunctionEnv_cells hk (kindsX hkind _) fun env he s₁ x => ?_
  subst he
  exact ⟨hlim.keeps x.toInCall.keep, codeAny_func (h s₁ x)⟩

/-- C(..): dict at size, instance at size + 1, then __init__ -/
theorem make_obj {R : Result → Shared → Prop} {C fI : Addr} {rest : List Value} {kw : List (Str × Value)}
    (X : K.In s.heap) (hm : makesIn K C = true) (hi : findIn K (.ref C) "__init__" = some (some (.ref fI))) (hf : isFn K (.ref fI) = true)
    (h : codeAny (model prog w) (A.under (.builtin "type.__call__" ⟨.ref C :: rest, kw⟩)) (.call (.ref fI) ⟨.ref (s.heap.objs.size + 1) :: rest, kw⟩) (InitBack (s.heap.objs.size + 1) R)
      { s with heap := (s.heap.push emptyDict).push (instObj C s.heap.objs.size) }) : codeAny (model prog w) A (.call (.ref C) ⟨rest, kw⟩) R s := by
  obtain ⟨hh, g, d, t, os⟩ := s
  exact make_core (makes_of X hm) (looks_findIn X hi) (fun self => bind_fn X self (beq_iff_eq.mp hf)) (.inl rfl) h

/-- x.name where the instance's dict holds the name and the class does not -/
theorem get_field {x C : Addr} {ox : Obj} {es : List DictEntry} {n : Nat} {name : Str} {expr : Bool} {v : Value} {Q : Value → Shared → Prop}
    (X : K.In s.heap) (I : PySem.W.InstAt s.heap x ox C (some (dictOf es n))) (hg : plainGet K C name = true) (hh : hasDictIn K C = true) (ha : findIn K (.ref C) name = some none)
    (hl : getL name es = some (some v)) (hv : handedIn v = true) (h : Q v { s with toks := s.toks + 1 }) : wpAny (model prog w) A (getAttr (.ref x) name expr) Q E s :=
  get_value X I (plainGet_of hg).1 (findObj_own hh ha rfl hl) hv h

/-- x.m(..): the method found in the class -/
theorem get_method {x C f : Addr} {ox : Obj} {es : List DictEntry} {n : Nat} {name : Str} {pl : Sem Bool} {Q : Value × List Value → Shared → Prop}
    (X : K.In s.heap) (I : PySem.W.InstAt s.heap x ox C (some (dictOf es n))) (hg : plainGet K C name = true) (hf : findIn K (.ref C) name = some (some (.ref f))) (ht : isFn K (.ref f) = true)
    (hl : getL name es = some none) (h : Q (.ref f, [.ref x]) s) : wpAny (model prog w) A (getMethod (.ref x) name pl) Q E s :=
  method_fn X I (plainGet_of hg).1 (plainGet_of hg).2 hf (beq_iff_eq.mp ht) (by show (lookIn name (dictOf es n)).map _ = _; rw [lookIn_dict, hl]; rfl) h

/-! the whole heap as the ledger: makes every rule that writes through a ledger a rule over any heap -/
def noObjs (h : Heap) : Heap := { h with objs := #[] }
theorem noObjs_get (h : Heap) (b : Addr) : (noObjs h).get? b = none := by
  cases e : (noObjs h).get? b with
  | none => rfl
  | some o => exact absurd (Heap.lt_size e) (Nat.not_lt_zero _)
def ledger (h : Heap) (L d : Addr) : List (Addr × Obj) := (List.range h.objs.size).filterMap fun a => if a = L ∨ a = d then none else (h.get? a).map fun o => (a, o)
theorem mem_ledger {h : Heap} {L d a : Addr} {o : Obj} : (a, o) ∈ ledger h L d ↔ a ≠ L ∧ a ≠ d ∧ h.get? a = some o := by
  unfold ledger
  rw [List.mem_filterMap]
  constructor
  · rintro ⟨b, _, e⟩
    split at e
    · cases e
    · rename_i hb
      obtain ⟨o', ho, e'⟩ := Option.map_eq_some_iff.mp e
      cases e'
      exact ⟨fun q => hb (.inl q), fun q => hb (.inr q), ho⟩
  · rintro ⟨n1, n2, ho⟩
    refine ⟨a, List.mem_range.mpr (Heap.lt_size ho), ?_⟩
    rw [if_neg (show ¬ (a = L ∨ a = d) from fun q => q.elim n1 n2), ho] <;> rfl
theorem news_ledger {h : Heap} {L d : Addr} {od : Obj} (hne : d ≠ L) (ho : h.get? d = some od) : News (noObjs h) L h ([] ++ (d, od) :: ledger h L d) := by
  rintro ⟨a, o⟩ hp
  rcases List.mem_cons.mp hp with e | hp
  · cases e
    exact ⟨ho, hne, noObjs_get _ _⟩
  · obtain ⟨n1, n2, e⟩ := mem_ledger.mp hp
    exact ⟨e, n1, noObjs_get _ _⟩
theorem fr_all {h : Heap} {L : Addr} {m : Str → Option Value} (n : h.Ns L m) : Fr (noObjs h) L h m :=
  ⟨n, fun b o e => (by rw [noObjs_get] at e; cases e), Nat.zero_le _⟩
/-- Upd of the head entry (for append_K, setItem_K ..) -/
theorem upd_ledger {h : Heap} {L d : Addr} {o o' : Obj} : Upd d o o' ((d, o) :: ledger h L d) ((d, o') :: ledger h L d) :=
  .head fun ⟨_, _⟩ hp => (mem_ledger.mp hp).2.1

/-- x.name = v over any heap: L is any namespace of the heap (the frame's, say): its map stays, its object is not told; all else but the dict stays -/
theorem set_field {x C dx L : Addr} {ox : Obj} {m : Str → Option Value} {es es' : List DictEntry} {n n' : Nat} {name : Str} {v : Value} {Q : Unit → Shared → Prop}
    (X : K.In s.heap) (I : PySem.W.InstAt s.heap x ox C (some (dictOf es n))) (hd : ox.dict = some dx) (hL : s.heap.Ns L m) (hne : dx ≠ L)
    (hs : findIn K (.ref C) "__setattr__" = some (some (.builtin "object.__setattr__"))) (hp : plainOver K C = true) (ht : takerIn K C name = some none) (hh : hasDictIn K C = true) (hl : (getL name es).isSome = true)
    (e : (putL name (PyData.keyHash w.params name) (.str name (s.toks + 1)) v es, putN name es n) = (es', n')) (hz : es'.length ≤ 1000)
    (h : ∀ h' : Heap, h'.Ns L m → h'.get? dx = some (dictOf es' n') → (∀ b o, b ≠ dx → b ≠ L → s.heap.get? b = some o → h'.get? b = some o) → Q () { s with heap := h', toks := s.toks + 2 }) :
    wpAny (model prog w) A (setAttr (.ref x) name v) Q E s := by
  obtain ⟨e1, e2⟩ := Prod.mk.inj e
  have hdx : s.heap.get? dx = some (dictOf es n) := by
    have := I.dict
    rw [hd] at this
    exact this
  refine set_plain X I hs (osa_dict (s := { s with toks := s.toks + 1 }) (h₀ := noObjs s.heap) (L := L) (m := m) (od := dictOf es n) (od' := dictOf es' n') (es := es') (n := n') (pre := []) (post := ledger s.heap L dx)
    (fr_all hL) (news_ledger hne hdx) X I hd hp ht hh hl (fun _ q => nomatch q) (fun ⟨_, _⟩ q => (mem_ledger.mp q).2.1) (by rw [putName_dict, e1, e2]) rfl hz fun h' F' N' => ?_)
  exact h h' F'.ns (N'.get (List.Mem.head _)) fun b o n1 n2 ho => N'.get (List.Mem.tail _ (mem_ledger.mpr ⟨n2, n1, ho⟩))
end
end Att

namespace L2
open PySem PySem.Spec PyProof.Rows

theorem vals_ints : ∀ {vs : List Value} {ns : List Int}, IntsAre vs ns → Vals (ns.map V.int) vs
  | _, _, .nil => .nil
  | _, _, .cons n t h => .cons ⟨t, rfl⟩ (vals_ints h)

/-- nothing is tracked but the script, known to the object (or it is an object of the module) -/
def Only (H : Hp) : Prop := ∀ b, H b = none ∨ ∃ o xs, H b = some (.frz o (.lst xs))

/-- THE HEAD: the law's promise, at the heap behind the top. F, the promise of the law's def, may use that base is part of the heap (so K.In base, base.Ns mainGlobals mg stand in Mod) -/
theorem law_call {P : Program} {w : World} {K : PySem.W.Frag} {mg mb : Str → Option Value} {CX : CXT} {k : Nat} {fa a : Addr} {fd : FuncData} {x : Str} {sp : Sp} {s₁ : Shared} {vs : List Value} {ns : List Int}
    (KX : K.In s₁.heap) (hns : s₁.heap.Ns mainGlobals mg) (hb : s₁.heap.Ns builtinsNs mb) (hbb : ∀ x : Str, x ≠ "__name__" → mb x = bootBuiltins x) (hlim : s₁.heap.NoLimit) (hg : s₁.gens = #[])
    (ha : s₁.heap.get? a = some { cls := .type "list", data := .seq vs.toArray }) (hi : IntsAre vs ns) (hl : ns.length ≤ sizeLine) (hr : Room k callerA)
    (F : ∀ base : Heap, K.In base → base.Ns mainGlobals mg → FnOk P w K mg base CX k fa fd [x] sp) (hbind : ∀ (s : Shared) (u : Value), BindsTo s fd ⟨[u], []⟩ [(x, u)])
    (hsp : ∀ H : Hp, Only H → SqL K H a (ns.map V.int) → sp [.ref a] H (fun v _ => v = .bl true) fun _ _ _ => False)
    (hCX : ∀ H e s', CX [] H s₁ (fun _ _ _ => False) e s' → False) :
    codeAny (model P w) callerA (.call (.ref fa) ⟨[.ref a], []⟩) (fun r s' => r = .ok (.ret (.bool true)) ∧ OldK s₁.heap s'.heap ∧ s'.os = s₁.os ∧ AllBare s'.gens) s₁ := by
  have rv := vals_ints hi
  have lenV := hi.length
  -- from an abstract heap in which nothing but the script may be tracked
  have core : ∀ H : Hp, Only H → SqL K H a (ns.map V.int) → HOk P w H s₁.heap → (∀ b, H b ≠ none → b = a) → (H a ≠ none → K.lookup a = none) →
      codeAny (model P w) callerA (.call (.ref fa) ⟨[.ref a], []⟩) (fun r s' => r = .ok (.ret (.bool true)) ∧ OldK s₁.heap s'.heap ∧ s'.os = s₁.os ∧ AllBare s'.gens) s₁ := by
    intro H hO hS hok hA hK
    have base_of : ∀ {b : Addr} {o : Obj}, s₁.heap.get? b = some o → H b = none → (hidT s₁.heap H).get? b = some o := fun e n => hidT_get e n
    have noA : ∀ {b : Addr} {o : Obj} {es : Array DictEntry} {ep : Nat}, s₁.heap.get? b = some o → o.data = .dict es ep → H b = none := fun {b o es ep} e d => by
      cases q : H b with
      | none => rfl
      | some u =>
        have e' : b = a := hA b (by rw [q]; simp)
        subst e'
        rw [ha] at e; cases e
        have d' : Data.seq vs.toArray _ = Data.dict es ep := d
        cases d'
    have nsK : ∀ {b : Addr} {m : Str → Option Value}, s₁.heap.Ns b m → (hidT s₁.heap H).Ns b m := fun {b m} ⟨o, es, ep, e, d, r⟩ => ⟨o, es, ep, base_of e (noA e d), d, r⟩
    have hKb : K.In (hidT s₁.heap H) := fun b o e => base_of (KX b o e) (by
      cases q : H b with
      | none => rfl
      | some u =>
        have e' : b = a := hA b (by rw [q]; simp)
        subst e'
        rw [hK (by rw [q]; simp)] at e; cases e)
    have hM : Mod K mg (hidT s₁.heap H) := ⟨hKb, nsK hns, ⟨mb, nsK hb, hbb⟩, let ⟨mc, h1, h2⟩ := hlim; ⟨mc, nsK h1, h2⟩⟩
    have e0 : Env0 P w K mg (hidT s₁.heap H) callerA [] s₁ H := ⟨rfl, hM, fun b o e => of_hidT e, Nat.le_of_eq (hidT_size _ _), trivial, fun b hb => absurd (show b ∈ ([] : List Addr) from hb) (by simp), hok, .of_eq hg⟩
    refine codeAny_mono ((F _ hKb (nsK hns)).run callerA [] s₁ H ⟨[.ref a], []⟩ [.ref a] [.ref a] _ _ hr e0 (hbind s₁ (.ref a)) (.cons rfl .nil) (hsp H hO hS)) fun r s' h => ?_
    cases r with
    | error e => exact (hCX H e s' h).elim
    | ok fl =>
      cases fl with
      | next => exact False.elim h
      | brk => exact False.elim h
      | cont => exact False.elim h
      | ret u =>
        obtain ⟨v, H', os, bare, un, hok', r', q⟩ := h
        have q' : v = .bl true := q
        subst q'
        obtain rfl : u = Value.bool true := r'
        refine ⟨rfl, OldK.of_keep fun b o e => ?_, os, bare⟩
        cases q : H b with
        | none => exact un.keep b o e q (by intro z; exact absurd (show b ∈ ([] : List Addr) from z) (by simp)) (by simp)
        | some u =>
          rcases hO b with z | ⟨ob, xs, z⟩
          · rw [q] at z; cases z
          · have z2 := un.frzs b ob _ z
            obtain ⟨e1, _⟩ := hok b _ z
            obtain ⟨e2, _⟩ := hok' b _ z2
            rw [e] at e1; cases e1
            exact e2
  cases hk : K.lookup a with
  | some o =>
    -- the script is one of the module's own objects
    have e := KX a o hk
    rw [ha] at e
    cases e
    refine core (fun _ => none) (fun _ => .inl rfl) (.inr ⟨_, vs.toArray, _, hk, rfl, rfl, rfl, by rw [List.size_toArray, lenV]; exact hl, by simpa using rv⟩) (fun b u z => by have z' : (none : Option HO) = some u := z; cases z') (fun b z => absurd rfl z) fun z => absurd rfl z
  | none =>
    refine core (fun b => if b = a then some (.frz { cls := .type "list", data := .seq vs.toArray } (.lst (ns.map V.int))) else none) (fun b => ?_) (.inl (.inr ⟨{ cls := .type "list", data := .seq vs.toArray }, if_pos rfl⟩)) (fun b u z => ?_) (fun b z => ?_) fun _ => hk
    · by_cases hb : b = a
      · exact .inr ⟨_, _, if_pos hb⟩
      · exact .inl (if_neg hb)
    · by_cases hb : b = a
      · have z' := (if_pos hb).symm.trans z
        cases z'
        subst hb
        exact ⟨ha, by rw [List.length_map]; exact hl, vs, _, rv, ha⟩
      · have z' := (if_neg hb).symm.trans z
        cases z'
    · by_cases hb : b = a
      · exact hb
      · exact absurd (if_neg hb) z
end L2

namespace L2
open PySem PySem.Spec PyProof.Rows

abbrev KOf {K : PySem.W.Frag} {h : Heap} (_ : K.In h) : PySem.W.Frag := K

/-- the goal that k_head leaves (case hc), from the law's promise. F gives the function object fd (K's own) once, then the promise over every base -/
theorem walk_of {l : PySem.W.OpenLaw} {n k : Nat} {q : Program} {loose : List Str} {XP : (Str → Option Value) → Heap → Prop} {YP : World → Heap → Prop} {d : DefRec} {K : Params → PySem.W.Frag} {CX : World → CXT} {sp : World → Sp} {x : Str}
    (hn : l.most = some n) (hn2 : n ≤ sizeLine) (hdf : d.params.defaults = []) (hr : Room k callerA)
    (hY : ∀ (w : World) (h : Heap), YP w h → (K w.params).In h)
    (F : ∀ (w : World) (mg : Str → Option Value) (fa : Addr) (h : Heap), (K w.params).In h → h.Ns mainGlobals mg → mg d.name = some (.ref fa) →
      ∃ fd : FuncData, (∀ (s : Shared) (u : Value), BindsTo s fd ⟨[u], []⟩ [(x, u)]) ∧
        ∀ base : Heap, (K w.params).In base → base.Ns mainGlobals mg → FnOk l.prog w (K w.params) mg base (CX w) k fa fd [x] (sp w))
    (hsp : ∀ (w : World) (H : Hp) (a : Addr) (ns : List Int), ns.length ≤ n → Only H → SqL (K w.params) H a (ns.map V.int) → sp w [.ref a] H (fun v _ => v = .bl true) fun _ _ _ => False)
    (hCX : ∀ (w : World) (H : Hp) (s : Shared) (e : Value) (s' : Shared), CX w [] H s (fun _ _ _ => False) e s' → False) :
    PySem.W.WalkO q loose XP YP l.row.toRowW d [] (fun f vs => PySem.call f vs) := by
  refine Att.attach_call hn hdf fun w s₀ s₁ mg mb fa o pm cd doc a vs ns G Y ho hd hcd hmg hobj hints hlen hg => ?_
  have KX := hY w _ Y
  obtain ⟨fd, hb, hF⟩ := F w mg fa _ KX G.T.g hmg
  exact law_call KX G.T.g G.T.b G.T.builtins G.T.nolimit hg hobj hints (Nat.le_trans hlen hn2) hr hF hb (fun H hO hS => hsp w H a ns hlen hO hS) fun H e s' => hCX w H s₁ e s'
/-- the same where the promise hangs on the written part alone: (sp := My.sp_law), no hole under a binder -/
theorem walk_ofK {l : PySem.W.OpenLaw} {n k : Nat} {q : Program} {loose : List Str} {XP : (Str → Option Value) → Heap → Prop} {YP : World → Heap → Prop} {d : DefRec} {K : Params → PySem.W.Frag} {CX : CXT} {sp : PySem.W.Frag → Sp} {x : Str}
    (hn : l.most = some n) (hn2 : n ≤ sizeLine) (hdf : d.params.defaults = []) (hr : Room k callerA)
    (hY : ∀ (w : World) (h : Heap), YP w h → (K w.params).In h)
    (F : ∀ (w : World) (mg : Str → Option Value) (fa : Addr) (h : Heap), (K w.params).In h → h.Ns mainGlobals mg → mg d.name = some (.ref fa) →
      ∃ fd : FuncData, (∀ (s : Shared) (u : Value), BindsTo s fd ⟨[u], []⟩ [(x, u)]) ∧
        ∀ base : Heap, (K w.params).In base → base.Ns mainGlobals mg → FnOk l.prog w (K w.params) mg base CX k fa fd [x] (sp (K w.params)))
    (hsp : ∀ (K : PySem.W.Frag) (H : Hp) (a : Addr) (ns : List Int), ns.length ≤ n → Only H → SqL K H a (ns.map V.int) → sp K [.ref a] H (fun v _ => v = .bl true) fun _ _ _ => False)
    (hCX : ∀ (H : Hp) (s : Shared) (e : Value) (s' : Shared), CX [] H s (fun _ _ _ => False) e s' → False) :
    PySem.W.WalkO q loose XP YP l.row.toRowW d [] (fun f vs => PySem.call f vs) :=
  walk_of (K := K) (CX := fun _ => CX) (sp := fun w => sp (K w.params)) hn hn2 hdf hr hY F (fun w H a ns h1 h2 h3 => hsp (K w.params) H a ns h1 h2 h3) fun _ H s e s' => hCX H s e s'
end L2

/- THE LAST THEOREM (shape; LID, My.* are yours):
   My.Adr: a structure of the addresses that your layer names (classes, functions); My.Txt K t: a structure (Prop) of the equations over K;
   My.txt_mk : {K} {implicit addresses ..} (e1 : nsIn K mainGlobals "law" = some (some (.ref f))) (e2 : K.lookup f = some ⟨oc, od, .func (fnOf "law" "law" params body scope dV kV doc pm an cdv ct), sl⟩) (e3 : codeIn K cdv "law" = true) .. : ∃ t, My.Txt K t

set_option maxRecDepth 100000 in
set_option maxHeartbeats 0 in
theorem PySem.Challenge.cw_LID_holds : PySem.Challenge.rw_LID.Holds := by
  w_on; o_law; k_head; (case hw => w_witness2)
  k_fill
  refine L2.walk_of (l := PySem.Challenge.rw_LID) (n := 63) (k := 40) (x := "script") (CX := fun w => ..) (sp := fun _ => My.sp_law) rfl (by decide) rfl ⟨rfl, by decide, by decide⟩ (fun w h Y => PySem.W.kIn_of Y) ?F ?S ?C
  case F =>
    intro w mg fa h KX G hmg
    have T : ∃ t, My.Txt (L2.KOf KX) t := by
      dsimp only [L2.KOf]                          -- K must stand as «<heap const> w.params» for k_is
      refine' My.txt_mk ?e1 ?e2 ?e3 ..
      (case e1 => PySem.W.k_is)                    -- in the order: a name -> its address -> its object -> its parts
      (case e2 => PySem.W.k_is)
      ..
    obtain ⟨t, T⟩ := T
    have e0 := hmg.symm.trans (PySem.W.mg_of KX G T.law)
    cases e0                                       -- fa is the law's own address
    exact ⟨_, fun s u => .of_eq rfl, fun base kb nb => My.law_fn T kb nb⟩     -- if «.of_eq rfl» comes too early: refine' ⟨_, ?b, fun base kb nb => My.law_fn T kb nb⟩; exact fun s u => .of_eq rfl
  case S => exact fun w H a ns hl hO hS => ..
  case C => exact ..
(the tactic k_is has no namespace: write k_is) -/

/-! SHORT WORDS over the layer: a def of the text, its body, what a loop and a test want. -/
namespace L2
open PySem PySem.Spec PyProof.Rows

/-! ### the text by places -/

/-! ### no exception leaves a def -/
abbrev CX0 : CXT := fun _ _ _ _ _ _ => False
abbrev E0 : XK := fun _ _ _ => False
theorem pass0 {X : Cx} : Passes CX0 X E0 := fun _ _ _ _ _ _ _ h => h.elim

/-! ### a def (or method) of the text as it stands behind the top -/
structure Fun (K : PySem.W.Frag) (x qual : Str) (st : Stmt) (f : Addr) (fd : FuncData) : Prop where
  ex : ∃ (oc : Value) (od : Option Addr) (kV doc pm : Value) (an : Option Addr) (cdv ct : Value) (osl : Array (Option Value)),
    fd = PySem.W.fnOf x qual (defArgs st) (defBody st) (defScope st) .none kV doc pm an cdv ct ∧ K.lookup f = some ⟨oc, od, .func fd, osl⟩ ∧ PySem.W.codeIn K cdv qual = true
  kp : PySem.W.keepIn K (.ref f) = true
section
variable {P : Program} {w : World} {K : PySem.W.Frag} {mg : Str → Option Value} {base : Heap}
/-- THE RULE for a def: its body as a term of rules, and the reading of that term -/
theorem Fun.ok {x qual : Str} {st : Stmt} {f : Addr} {fd : FuncData} {N ps : List Str} {k : Nat} {sp : Sp} (F : Fun K x qual st f fd) (S : FnScope N ps (defScope st)) (len : ∀ vs H Q E, sp vs H Q E → vs.length = ps.length)
    (hbody : ∀ (cdv : Value) (A : Around) (outer : List Env) (s : Shared) (H : Hp) (vs : List V) (Q : VK) (E : XK), Room k (A.deeper (envOfC qual (defScope st) s.heap.objs.size f cdv)) → sp vs H Q E →
      ∃ t, PSs (cxOf CX0 P w K mg base N qual (defScope st) f cdv A outer s H E).nox (defBody st) t ∧ t { nx := fun _ H' => Q .non H', rt := Q } (start N vs) H) : FnOk P w K mg base CX0 (k + 1) f fd ps sp := by
  obtain ⟨oc, od, kV, doc, pm, an, cdv, ct, osl, rfl, lk, hcd⟩ := F.ex
  refine fn_of lk hcd S len fun A outer s H vs Q E hr hsp => ?_
  obtain ⟨t, h, q⟩ := hbody cdv A outer s H vs Q E hr hsp
  exact ⟨t, h.nox, q⟩
/-- how its arguments bind (no defaults): h is «fun _ _ _ _ _ _ us hl => match us, hl with | [_, _], _ => rfl», one _ a parameter -/
theorem Fun.binds {x qual : Str} {st : Stmt} {f : Addr} {fd : FuncData} {ps : List Str} (F : Fun K x qual st f fd)
    (h : ∀ (kV doc pm : Value) (an : Option Addr) (cdv ct : Value) (us : List Value), us.length = ps.length → bindArgs (PySem.W.fnOf x qual (defArgs st) (defBody st) (defScope st) .none kV doc pm an cdv ct) ⟨us, []⟩ = pure (ps.zip us)) : Binds K fd ps [] := by
  obtain ⟨oc, od, kV, doc, pm, an, cdv, ct, osl, rfl, lk, hcd⟩ := F.ex
  exact .all (h kV doc pm an cdv ct)
theorem fun_mk {x qual : Str} {st : Stmt} {f : Addr} {oc : Value} {od an : Option Addr} {osl : Array (Option Value)} {kV doc pm cdv ct : Value} (l : K.lookup f = some ⟨oc, od, .func (PySem.W.fnOf x qual (defArgs st) (defBody st) (defScope st) .none kV doc pm an cdv ct), osl⟩)
    (c : PySem.W.codeIn K cdv qual = true) (k : PySem.W.keepIn K (.ref f) = true) : Fun K x qual st f (PySem.W.fnOf x qual (defArgs st) (defBody st) (defScope st) .none kV doc pm an cdv ct) := ⟨⟨oc, od, kV, doc, pm, an, cdv, ct, osl, rfl, l, c⟩, k⟩
end
theorem hu_of {A : Around} {k : Nat} (hr : Room k A) : A.units + 1 < cLine := Nat.lt_of_le_of_lt (Nat.add_le_add_left (by decide : 1 ≤ 64) _) hr.units
theorem small1000 {n : Nat} (h : n ≤ 1000) : n < sizeLine := Nat.lt_of_le_of_lt h (by decide)

/-! ### expressions in short: the name that stands in the i-th slot -/
section
variable {X : Cx}
theorem pv (i : Nat) {x : Str} {pos : Pos} (hN : X.N[i]? = some x := by rfl) (hv : Vis X.env.scope x := by first | exact Or.inl rfl | exact Or.inr (Or.inl rfl) | exact Or.inr (Or.inr rfl)) (hd : (x == ("__debug__" : Str)) = false := by decide)
    (hcd : (x == ("__classdict__" : Str)) = false := by decide) : PE X (.Name x pos) (tVar i) := pe_var hN hv hd hcd
end

/-! ### tests -/
theorem iteF {A B : Prop} (h : B) : if false = true then A else B := by
  rw [if_neg Bool.false_ne_true]
  exact h
theorem iteT {A B : Prop} (h : A) : if true = true then A else B := by
  rw [if_pos rfl]
  exact h
theorem ite2 {c A B : Prop} [Decidable c] (h1 : c → A) (h2 : ¬ c → B) : if c then A else B := by
  by_cases h : c
  · rw [if_pos h]
    exact h1 h
  · rw [if_neg h]
    exact h2 h
theorem iteNS {c A B : Prop} [Decidable c] (hc : c) (h : B) : if (!decide c) = true then A else B := by
  rw [decide_eq_true hc]
  exact iteF h

/-! ### heaps -/
/-- all that was tracked is as it was -/
def Same (H H' : Hp) : Prop := ∀ b o, H b = some o → H' b = some o
theorem Same.refl (H : Hp) : Same H H := fun _ _ h => h
theorem Same.trans {H H1 H2 : Hp} (a : Same H H1) (b : Same H1 H2) : Same H H2 := fun c o h => b c o (a c o h)
theorem Same.free {H H' : Hp} (e : Same H H') {l : Addr} (h : H' l = Option.none) : H l = Option.none := by
  cases q : H l with
  | none => rfl
  | some o =>
    rw [e l o q] at h
    cases h
theorem Same.seq {K : PySem.W.Frag} {H H' : Hp} {a : Addr} {xs : List V} (e : Same H H') (h : SqL K H a xs) : SqL K H' a xs := by
  rcases h with (h | ⟨o, h⟩) | h
  · exact .inl (.inl (e _ _ h))
  · exact .inl (.inr ⟨o, e _ _ h⟩)
  · exact .inr h

end L2

namespace L3
open PySem

/-- the tests of a comprehension's clause -/
def tests (ifs : List Expr) (env : Env) : Sem Bool :=
  forIn ifs true fun c r => if r = true then (do let ok ← isTrue c env (eval c env); pure (ForInStep.yield ok)) else pure (ForInStep.yield r)

section
variable {prog : Program} {w : World} {A : Around} {R : Result → Shared → Prop} {s : Shared}

/-- the loop of a list's comprehension, whatever its target -/
theorem comp_loop {elt tg iter : Expr} {ifs : List Expr} {sc : Scope} {pos : Pos} {it acc : Value} {env : Env} (J : Nat → Shared → Prop) {EE : Value → Shared → Prop}
    (hEE : ∀ e s', EE e s' → notedBy (model prog w) A env (fun e s' => R (.error e) s') e s')
    (turn : ∀ n s, J n s → wpAny (model prog w) A (pyNext it) (fun r s₁ => (r = none → R (.ok .next) s₁) ∧ ∀ v, r = some v →
      wpAny (model prog w) A (letOwnedTupleGo tg it v) (fun _ s₂ => wpAny (model prog w) A (assign tg env v) (fun _ s₃ => wpAny (model prog w) A (tests ifs env) (fun ok s₄ =>
        (ok = true → wpAny (model prog w) A (eval elt env) (fun x s₅ => wpAny (model prog w) A (call (.builtin "list.append") [acc, x]) (fun _ s₆ => ∃ m, m < n ∧ J m s₆) EE s₅) EE s₄) ∧
        (ok = false → ∃ m, m < n ∧ J m s₄)) EE s₃) EE s₂) EE s₁) EE s)
    (n : Nat) (h : J n s) : codeAny (model prog w) A (.compLoop (.ListComp elt [⟨tg, iter, ifs, 0⟩] sc pos) 0 it acc env) R s := by
  refine codeAny_loop rfl J (fun n s hJ => ?_) n h
  show wpAny _ A ((compTurn (.ListComp elt [⟨tg, iter, ifs, 0⟩] sc pos) 0 it acc env).onRaise _) _ _ s
  refine wpAny_noted (wpAny_mono (E := EE) ?_ (fun _ _ q => q) fun e s' q => hEE e s' q)
  rw [compTurn_list]
  refine wpAny_bind (wpAny_standAt (wpAny_bind (wpAny_mono (turn n s hJ) (fun r s₁ h₁ => ?_) fun _ _ q => q)))
  cases r with
  | none => exact wpAny_pure (h₁.1 rfl)
  | some v =>
    refine wpAny_bind (wpAny_mono (h₁.2 v rfl) (fun _ s₂ h₂ => ?_) fun _ _ q => q)
    refine wpAny_bind (wpAny_mono h₂ (fun _ s₃ h₃ => ?_) fun _ _ q => q)
    refine wpAny_bind (wpAny_mono h₃ (fun ok s₄ h₄ => ?_) fun _ _ q => q)
    cases ok with
    | false => exact wpAny_pure ⟨rfl, h₄.2 rfl⟩
    | true =>
      refine wpAny_bind (wpAny_bind (wpAny_mono (h₄.1 rfl) (fun x s₅ h₅ => ?_) fun _ _ q => q))
      exact wpAny_bind (wpAny_mono h₅ (fun _ s₆ h₆ => wpAny_pure (wpAny_pure ⟨rfl, h₆⟩)) fun _ _ q => q)
theorem tests_nil {env : Env} {Q : Bool → Shared → Prop} {E : Value → Shared → Prop} (h : Q true s) : wpAny (model prog w) A (tests [] env) Q E s := wpAny_pure h
theorem tests_one {c : Expr} {env : Env} {Q : Bool → Shared → Prop} {E : Value → Shared → Prop} (h : wpAny (model prog w) A (isTrue c env (eval c env)) Q E s) : wpAny (model prog w) A (tests [c] env) Q E s := by
  unfold tests
  rw [List.forIn_cons]
  exact wpAny_bind (wpAny_bind (wpAny_mono h (fun ok s' q => wpAny_pure (wpAny_pure q)) fun _ _ q => q))

/-- the cells that a comprehension's block draws from around it -/
def clOf (cells : List (Str × Addr)) : List (Str × NameKind) → List (Str × Addr) → List (Str × Addr)
  | [], acc => acc
  | (n, k) :: r, acc => if k == .free then clOf cells r (match cells.lookup n with | some c => (n, c) :: acc | none => acc) else clOf cells r acc
theorem closure_eq {env : Env} : ∀ (names : List (Str × NameKind)) (acc : List (Str × Addr)), (∀ p ∈ names, p.2 = .free → ∃ c, env.cells.lookup p.1 = some c) →
    (forIn names acc fun (x : Str × NameKind) (cs : List (Str × Addr)) => match x with
      | (name, kind) => if (kind == NameKind.free) = true then (do let c ← cellOf env name; pure (ForInStep.yield ((name, c) :: cs))) else (pure (ForInStep.yield cs) : Sem (ForInStep (List (Str × Addr))))) = pure (clOf env.cells names acc)
  | [], acc, _ => rfl
  | (n, k) :: r, acc, h => by
    have ih := fun acc => closure_eq r acc fun p hp => h p (List.mem_cons_of_mem _ hp)
    rw [List.forIn_cons]
    by_cases hk : (k == NameKind.free) = true
    · obtain ⟨c, hc⟩ := h (n, k) List.mem_cons_self (by simpa using hk)
      have e : cellOf env n = pure c := by unfold cellOf; rw [hc]
      dsimp only
      rw [if_pos hk, e]
      unfold clOf
      rw [if_pos hk, hc]
      exact ih _
    · dsimp only
      rw [if_neg hk]
      unfold clOf
      rw [if_neg hk]
      exact ih _
theorem closure_of {env : Env} {sc : Scope} (h : ∀ p ∈ sc.names, p.2 = .free → ∃ c, env.cells.lookup p.1 = some c) : closureFor sc env = pure (clOf env.cells sc.names []) := by
  unfold closureFor
  have e := closure_eq (env := env) sc.names [] h
  simp only [e]
  rfl
theorem clOf_sub {cells : List (Str × Addr)} : ∀ (names : List (Str × NameKind)) (acc : List (Str × Addr)), (∀ x c, acc.lookup x = some c → cells.lookup x = some c) → ∀ x c, (clOf cells names acc).lookup x = some c → cells.lookup x = some c
  | [], acc, h, x, c, e => h x c e
  | (n, k) :: r, acc, h, x, c, e => by
    unfold clOf at e
    split at e
    · refine clOf_sub r _ (fun y d q => ?_) x c e
      split at q
      · rename_i c' hc'
        by_cases hy : y = n
        · subst hy
          rw [List.lookup_cons_self] at q
          cases q
          exact hc'
        · have hb : (y == n) = false := beq_eq_false_iff_ne.mpr hy
          rw [List.lookup_cons, hb] at q
          exact h y d q
      · exact h y d q
    · exact clOf_sub r acc h x c e
theorem clOf_keep {cells : List (Str × Addr)} : ∀ (names : List (Str × NameKind)) (acc : List (Str × Addr)) (x : Str), (∃ c, acc.lookup x = some c) → ∃ c, (clOf cells names acc).lookup x = some c
  | [], acc, x, h => h
  | (n, k) :: r, acc, x, h => by
    unfold clOf
    split
    · refine clOf_keep r _ x ?_
      split
      · rename_i c' hc'
        by_cases hy : x = n
        · subst hy
          exact ⟨c', List.lookup_cons_self⟩
        · have hb : (x == n) = false := beq_eq_false_iff_ne.mpr hy
          rw [List.lookup_cons, hb]
          exact h
      · exact h
    · exact clOf_keep r acc x h
theorem clOf_has {cells : List (Str × Addr)} : ∀ (names : List (Str × NameKind)) (acc : List (Str × Addr)) (x : Str), (x, NameKind.free) ∈ names → (∃ c, cells.lookup x = some c) → ∃ c, (clOf cells names acc).lookup x = some c
  | [], acc, x, h, _ => by cases h
  | (n, k) :: r, acc, x, h, hc => by
    unfold clOf
    rcases List.mem_cons.mp h with e | e
    · cases e
      obtain ⟨c, hc⟩ := hc
      rw [if_pos (beq_self_eq_true _), hc]
      exact clOf_keep r _ n ⟨c, List.lookup_cons_self⟩
    · split
      · exact clOf_has r _ x e hc
      · exact clOf_has r acc x e hc
end
end L3

namespace L3
open PySem

/-- an iterator over a list or a tuple, at place i -/
def SeqIt (b : Bool) (h : Heap) (it l : Addr) (i : Nat) : Prop := if b = true then h.IsListIter it l i else h.IsTupleIter it l i
/-- the list or tuple itself -/
def SeqIs (b : Bool) (h : Heap) (l : Addr) (xs : Array Value) : Prop := if b = true then h.IsList l xs else h.IsTuple l xs
theorem SeqIt.ext {b : Bool} {h h' : Heap} {it l c : Addr} {i : Nat} (x : SeqIt b h it l i) (e : Heap.ExtBut c h h') (n : it ≠ c) : SeqIt b h' it l i := by
  cases b with
  | true => exact (show h.IsListIter it l i from x).extBut e n
  | false => exact (show h.IsTupleIter it l i from x).extBut e n
theorem SeqIs.ext {b : Bool} {h h' : Heap} {l c : Addr} {xs : Array Value} (x : SeqIs b h l xs) (e : Heap.ExtBut c h h') (n : l ≠ c) : SeqIs b h' l xs := by
  cases b with
  | true => exact (show h.IsList l xs from x).extBut e n
  | false => exact (show h.IsTuple l xs from x).extBut e n
theorem SeqIt.at {b : Bool} {h h' : Heap} {it l : Addr} {i : Nat} (x : SeqIt b h it l i) (e : ∀ o, h.get? it = some o → h'.get? it = some o) : SeqIt b h' it l i := by
  cases b with
  | true => exact (show h.IsListIter it l i from x).at e
  | false => obtain ⟨o, ho, r⟩ := (show h.IsTupleIter it l i from x); exact ⟨o, e o ho, r⟩
theorem SeqIs.at {b : Bool} {h h' : Heap} {l : Addr} {xs : Array Value} (x : SeqIs b h l xs) (e : ∀ o, h.get? l = some o → h'.get? l = some o) : SeqIs b h' l xs := by
  cases b with
  | true => exact (show h.IsList l xs from x).at e
  | false => obtain ⟨o, ho, r⟩ := (show h.IsTuple l xs from x); exact ⟨o, e o ho, r⟩
theorem SeqIt.obj {b : Bool} {h : Heap} {it l : Addr} {i : Nat} (x : SeqIt b h it l i) : ∃ o vs, h.get? it = some o ∧ o.data = .fields vs := by
  cases b with
  | true => obtain ⟨o, e, _, d⟩ := (show h.IsListIter it l i from x); exact ⟨o, _, e, d⟩
  | false => obtain ⟨o, e, _, d⟩ := (show h.IsTupleIter it l i from x); exact ⟨o, _, e, d⟩

section
variable {prog : Program} {w : World} {A : Around} {E : Value → Shared → Prop} {s : Shared}

theorem next_tup_item {it t : Addr} {i : Nat} {its : Array Value} {x : Value} {Q : Value → Shared → Prop} (a1 : s.heap.IsTupleIter it t i) (a2 : s.heap.IsTuple t its) (a3 : its[i]? = some x)
    (k : ∀ h', h'.IsTupleIter it t (i + 1) → Heap.SameBut it s.heap h' → Q x { s with heap := h' }) : wpAny (model prog w) A (Builtin.SmallTypes.nextOf (.ref it)) Q E s := by
  obtain ⟨o, e, c, d⟩ := id a1
  obtain ⟨ot, et, _, nt, dt⟩ := a2
  unfold Builtin.SmallTypes.nextOf
  refine wpAny_bind (wpAny_callSpecial?_slot (name := Str.ofString "__next__") a1.typeIs F.slot_tuple_iterator_next (wpAny_call_entry F.slot_tuple_iterator_next a1.typeIs F.entry_tuple_iterator_next ?_ (F.args_tuple_iterator_next_1 _)))
  show wpAny _ _ (field (.ref it) 0 >>= _) _ _ s
  refine wpAny_bind (wpAny_field e d (x := .ref t) rfl ?_)
  show wpAny _ _ (if (Value.ref t == Value.none) = true then _ else _) _ _ s
  rw [if_neg (by exact Bool.false_ne_true)]
  show wpAny _ _ (field (.ref it) 1 >>= _) _ _ s
  refine wpAny_bind (wpAny_field e d (x := .int i 0) rfl ?_)
  show wpAny _ _ (seqItems? (.ref t) >>= _) _ _ s
  refine wpAny_bind (wpAny_seqItems et dt ?_)
  simp only [Int.toNat_natCast, a3]
  refine wpAny_bind (wpAny_setField e d (by simp) (wpAny_pure ⟨x, rfl, wpAny_pure (k _ ⟨_, Heap.get?_update_self _ e (Obj.isFreed_of_fields (Obj.data_mapFields d _)), (Obj.cls_mapFields ..).trans c, ?_⟩ (Heap.SameBut.update ..))⟩))
  rw [Obj.data_mapFields d]
  simp [rawInt]
theorem next_tup_end {it t : Addr} {i : Nat} {its : Array Value} {Q : Value → Shared → Prop} (hh : A.handled = none) (a1 : s.heap.IsTupleIter it t i) (a2 : s.heap.IsTuple t its) (a3 : its[i]? = none)
    (k : ∀ h' x, Heap.ExtBut it s.heap h' → (∃ o, h'.get? x = some o ∧ o.cls = .type "StopIteration") → E (.ref x) { s with heap := h' }) : wpAny (model prog w) A (Builtin.SmallTypes.nextOf (.ref it)) Q E s := by
  obtain ⟨o, e, c, d⟩ := id a1
  obtain ⟨ot, et, _, nt, dt⟩ := a2
  unfold Builtin.SmallTypes.nextOf
  refine wpAny_bind (wpAny_callSpecial?_slot (name := Str.ofString "__next__") a1.typeIs F.slot_tuple_iterator_next (wpAny_call_entry F.slot_tuple_iterator_next a1.typeIs F.entry_tuple_iterator_next ?_ (F.args_tuple_iterator_next_1 _)))
  show wpAny _ _ (field (.ref it) 0 >>= _) _ _ s
  refine wpAny_bind (wpAny_field e d (x := .ref t) rfl ?_)
  show wpAny _ _ (if (Value.ref t == Value.none) = true then _ else _) _ _ s
  rw [if_neg (by exact Bool.false_ne_true)]
  show wpAny _ _ (field (.ref it) 1 >>= _) _ _ s
  refine wpAny_bind (wpAny_field e d (x := .int i 0) rfl ?_)
  show wpAny _ _ (seqItems? (.ref t) >>= _) _ _ s
  refine wpAny_bind (wpAny_seqItems et dt ?_)
  simp only [Int.toNat_natCast, a3]
  refine wpAny_bind (wpAny_rule (wpAny_bind (wpAny_setField e d (by simp) ?_)))
  show wpAny _ _ (newExc (.type "StopIteration") [] >>= _) _ _ _
  refine wpAny_bind ?_
  unfold newExc newTuple
  refine wpAny_bind (wpAny_newObj_type ?_ (by size_fits))
  refine wpAny_bind (m := firstArgMember _ _) (wpAny_of_eq (a := Value.none) (by first | rfl | (simp only [firstArgMember]; rfl)) ?_)
  refine wpAny_newObj_type ?_ (by size_fits)
  unfold raiseNew
  refine wpAny_bind (wpAny_handled ?_)
  first | rw [show A.in1.handled = none from hh] | rw [hh]
  exact wpAny_bind (wpAny_pure (wpAny_throw (k _ _ (((Heap.SameBut.update ..).extBut.push _).push _) ⟨_, Heap.get?_push_size _ rfl, rfl⟩)))
theorem next_item {b : Bool} {it l : Addr} {i : Nat} {xs : Array Value} {x : Value} {Q : Value → Shared → Prop} (a1 : SeqIt b s.heap it l i) (a2 : SeqIs b s.heap l xs) (a3 : xs[i]? = some x)
    (k : ∀ h', SeqIt b h' it l (i + 1) → Heap.SameBut it s.heap h' → Q x { s with heap := h' }) : wpAny (model prog w) A (Builtin.SmallTypes.nextOf (.ref it)) Q E s := by
  cases b with
  | true => exact wpAny_nextOf_list_item a1 a2 a3 k
  | false => exact next_tup_item a1 a2 a3 k
theorem next_end {b : Bool} {it l : Addr} {i : Nat} {xs : Array Value} {Q : Value → Shared → Prop} (hh : A.handled = none) (a1 : SeqIt b s.heap it l i) (a2 : SeqIs b s.heap l xs) (a3 : xs[i]? = none)
    (k : ∀ h' x, Heap.ExtBut it s.heap h' → (∃ o, h'.get? x = some o ∧ o.cls = .type "StopIteration") → E (.ref x) { s with heap := h' }) : wpAny (model prog w) A (Builtin.SmallTypes.nextOf (.ref it)) Q E s := by
  cases b with
  | true => exact wpAny_nextOf_list_end hh a1 a2 a3 k
  | false => exact next_tup_end hh a1 a2 a3 k

/-- zip over two of them: one pair more -/
theorem zip_item {b1 b2 : Bool} {z TI TO i1 i2 l1 l2 : Addr} {k1 k2 : Nat} {xs ys : Array Value} {x y a b : Value} {Q : Option Value → Shared → Prop} (D : ZipApart z TI TO i1 i2 l1 l2)
    (hz : IsZip s.heap z TI TO .none) (hTI : IsPair s.heap TI (.ref i1) (.ref i2)) (hTO : IsPair s.heap TO a b) (n1 : SeqIt b1 s.heap i1 l1 k1) (n2 : SeqIt b2 s.heap i2 l2 k2) (m1 : SeqIs b1 s.heap l1 xs) (m2 : SeqIs b2 s.heap l2 ys)
    (hx : xs[k1]? = some x) (hy : ys[k2]? = some y)
    (hQ : ∀ h', IsZip h' z TI TO (rawInt s.heap.objs.size) → IsPair h' TO x y → SeqIt b1 h' i1 l1 (k1 + 1) → SeqIt b2 h' i2 l2 (k2 + 1) → IsPair h' s.heap.objs.size x y →
      (∀ c o, c ≠ z → c ≠ TO → c ≠ i1 → c ≠ i2 → s.heap.get? c = some o → h'.get? c = some o) → Q (some (.ref s.heap.objs.size)) { s with heap := h' }) : wpAny (model prog w) A (pyNext (.ref z)) Q E s := by
  have hT : s.TypeIs (.ref z) "zip" := ⟨_, hz, rfl⟩
  unfold pyNext
  refine wpAny_bind (wpAny_attempt (wpAny_callSpecial?_slot (name := Str.ofString "__next__") hT F.slot_zip_next (wpAny_call_entry F.slot_zip_next hT F.entry_zip_next ?_ (F.args_zip_next_1 _))))
  show wpAny _ _ (field (.ref z) 2 >>= _) _ _ s
  refine wpAny_bind (wpAny_field hz rfl (x := .bool false) rfl ?_)
  show wpAny _ _ (field (.ref z) 3 >>= _) _ _ s
  refine wpAny_bind (wpAny_field hz rfl (x := .ref TI) rfl (wpAny_bind (wpAny_seqItems hTI rfl ?_)))
  show wpAny _ _ (Builtin.SmallTypes.ownedTupleIsFree (.ref z) >>= _) _ _ s
  unfold Builtin.SmallTypes.ownedTupleIsFree
  refine wpAny_bind (wpAny_bind (wpAny_field hz rfl (x := .none) rfl (wpAny_pure ?_)))
  simp only [if_true]
  refine wpAny_bind (wpAny_rule (wpAny_bind (wpAny_field hz rfl (x := .ref TO) rfl (wpAny_bind (wpAny_setField_rec hz (by simp) fun g1 hz1 s1 => ?_)))))
  have hz1 : IsZip g1 z TI TO .ellipsis := hz1
  simp only [List.zipIdx_cons, List.zipIdx_nil, List.forIn_cons, List.forIn_nil]
  refine wpAny_bind (wpAny_bind (wpAny_bind (wpAny_onRaise ?_)))
  show wpAny _ _ (Builtin.SmallTypes.nextOf (.ref i1) >>= _) _ _ _
  refine wpAny_bind (next_item (n1.ext s1.extBut D.i1z) (m1.ext s1.extBut D.l1z) hx fun g2 n1' s2 => wpAny_pure ?_)
  have t2 : IsPair g2 TO a b := s2.extBut _ _ D.TOi1 (s1.extBut _ _ D.TOz hTO)
  refine wpAny_bind (wpAny_seqItems t2 rfl (wpAny_bind (wpAny_updateSeq_pair t2 fun g3 t3 s3 => wpAny_bind (wpAny_letGo (wpAny_pure ?_)))))
  have t3 : IsPair g3 TO x b := t3
  refine wpAny_bind (wpAny_bind (wpAny_onRaise ?_))
  show wpAny _ _ (Builtin.SmallTypes.nextOf (.ref i2) >>= _) _ _ _
  refine wpAny_bind (next_item (((n2.ext s1.extBut D.i2z).ext s2.extBut D.i12.symm).ext s3.extBut D.TOi2.symm) (((m2.ext s1.extBut D.l2z).ext s2.extBut D.l2i1).ext s3.extBut D.l2TO) hy fun g4 n2' s4 => wpAny_pure ?_)
  have t4 : IsPair g4 TO x b := s4.extBut _ _ D.TOi2 t3
  refine wpAny_bind (wpAny_seqItems t4 rfl (wpAny_bind (wpAny_updateSeq_pair t4 fun g5 t5 s5 => wpAny_bind (wpAny_letGo (wpAny_pure (wpAny_pure ?_))))))
  have t5 : IsPair g5 TO x y := t5
  refine wpAny_bind (wpAny_seqItems t5 rfl (wpAny_bind (wpAny_newTuple ?_)))
  have hsz : g5.objs.size = s.heap.objs.size := by rw [s5.1, s4.1, s3.1, s2.1, s1.1]
  have hz5 : IsZip g5 z TI TO .ellipsis := s5.extBut _ _ D.TOz.symm (s4.extBut _ _ D.i2z.symm (s3.extBut _ _ D.TOz.symm (s2.extBut _ _ D.i1z.symm hz1)))
  have k5 : ∀ c o, c ≠ z → c ≠ TO → c ≠ i1 → c ≠ i2 → s.heap.get? c = some o → g5.get? c = some o := fun c o c1 c2 c3 c4 e =>
    s5.extBut _ _ c2 (s4.extBut _ _ c4 (s3.extBut _ _ c2 (s2.extBut _ _ c3 (s1.extBut _ _ c1 e))))
  have n15 : SeqIt b1 g5 i1 l1 (k1 + 1) := ((n1'.ext s3.extBut D.TOi1.symm).ext s4.extBut D.i12).ext s5.extBut D.TOi1.symm
  have n25 : SeqIt b2 g5 i2 l2 (k2 + 1) := n2'.ext s5.extBut D.TOi2.symm
  have zlt : z < g5.objs.size := Heap.lt_size hz5
  show wpAny _ _ (Builtin.SmallTypes.ownedTupleHandOut (.ref z) (.ref g5.objs.size) >>= _) _ _ _
  unfold Builtin.SmallTypes.ownedTupleHandOut
  have hz6 : IsZip (g5.push { cls := .type "tuple", data := .seq #[x, y] }) z TI TO .ellipsis := Heap.get?_push_of_some _ hz5
  refine wpAny_bind (wpAny_bind (wpAny_setField_rec hz6 (by simp) fun g7 hz7 s7 => ?_))
  have hz7 : IsZip g7 z TI TO (rawInt g5.objs.size) := hz7
  refine wpAny_setField_rec hz7 (by simp) fun g8 hz8 s8 => ?_
  have hz8 : IsZip g8 z TI TO (rawInt g5.objs.size) := hz8
  have up : ∀ c o, c ≠ z → g5.get? c = some o → g8.get? c = some o := fun c o c1 e => s8.extBut _ _ c1 (s7.extBut _ _ c1 (Heap.get?_push_of_some _ e))
  have hT8 : IsPair g8 g5.objs.size x y := s8.extBut _ _ (Nat.ne_of_gt zlt) (s7.extBut _ _ (Nat.ne_of_gt zlt) (Heap.get?_push_size _ rfl))
  rw [hsz] at hz8 hT8
  refine wpAny_pure ⟨_, rfl, ?_⟩
  show wpAny _ _ (pure (some (Value.ref g5.objs.size)) : Sem (Option Value)) _ _ _
  rw [hsz]
  exact wpAny_pure (hQ g8 hz8 (up _ _ D.TOz t5) (n15.at fun o e => up _ o D.i1z e) (n25.at fun o e => up _ o D.i2z e) hT8 fun c o c1 c2 c3 c4 e => up c o c1 (k5 c o c1 c2 c3 c4 e))
theorem zip_end {b1 b2 : Bool} {z TI TO i1 i2 l1 l2 : Addr} {k1 k2 : Nat} {xs ys : Array Value} {a b : Value} {Q : Option Value → Shared → Prop} (hh : A.handled = none) (D : ZipApart z TI TO i1 i2 l1 l2)
    (hz : IsZip s.heap z TI TO .none) (hTI : IsPair s.heap TI (.ref i1) (.ref i2)) (hTO : IsPair s.heap TO a b) (n1 : SeqIt b1 s.heap i1 l1 k1) (n2 : SeqIt b2 s.heap i2 l2 k2) (m1 : SeqIs b1 s.heap l1 xs) (m2 : SeqIs b2 s.heap l2 ys)
    (hend : xs[k1]? = none ∨ ys[k2]? = none)
    (hQ : ∀ h', (∀ c o, c ≠ z → c ≠ TO → c ≠ i1 → c ≠ i2 → s.heap.get? c = some o → h'.get? c = some o) → Q none { s with heap := h' }) : wpAny (model prog w) A (pyNext (.ref z)) Q E s := by
  have hT : s.TypeIs (.ref z) "zip" := ⟨_, hz, rfl⟩
  have fin : ∀ (h' : Heap) (e : Addr), (∀ c o, c ≠ z → c ≠ TO → c ≠ i1 → c ≠ i2 → s.heap.get? c = some o → h'.get? c = some o) → (∃ o, h'.get? e = some o ∧ o.cls = .type "StopIteration") →
      wpAny (model prog w) A (do if ← isInstance (.ref e) (.type "StopIteration") then pure none else throw (.ref e)) Q E { s with heap := h' } := fun h' e hk ⟨o, ho, hc⟩ =>
    wpAny_bind (wpAny_isInstance (T := "StopIteration") (b := true) ⟨o, ho, hc⟩ isSubtype_stop (wpAny_pure (hQ _ hk)))
  unfold pyNext
  refine wpAny_bind (wpAny_attempt (wpAny_callSpecial?_slot (name := Str.ofString "__next__") hT F.slot_zip_next (wpAny_call_entry F.slot_zip_next hT F.entry_zip_next ?_ (F.args_zip_next_1 _))))
  show wpAny _ _ (field (.ref z) 2 >>= _) _ _ s
  refine wpAny_bind (wpAny_field hz rfl (x := .bool false) rfl ?_)
  show wpAny _ _ (field (.ref z) 3 >>= _) _ _ s
  refine wpAny_bind (wpAny_field hz rfl (x := .ref TI) rfl (wpAny_bind (wpAny_seqItems hTI rfl ?_)))
  show wpAny _ _ (Builtin.SmallTypes.ownedTupleIsFree (.ref z) >>= _) _ _ s
  unfold Builtin.SmallTypes.ownedTupleIsFree
  refine wpAny_bind (wpAny_bind (wpAny_field hz rfl (x := .none) rfl (wpAny_pure ?_)))
  simp only [if_true]
  refine wpAny_bind (wpAny_rule (wpAny_bind (wpAny_field hz rfl (x := .ref TO) rfl (wpAny_bind (wpAny_setField_rec hz (by simp) fun g1 hz1 s1 => ?_)))))
  have hz1 : IsZip g1 z TI TO .ellipsis := hz1
  simp only [List.zipIdx_cons, List.zipIdx_nil, List.forIn_cons, List.forIn_nil]
  refine wpAny_bind (wpAny_bind (wpAny_bind (wpAny_onRaise ?_)))
  show wpAny _ _ (Builtin.SmallTypes.nextOf (.ref i1) >>= _) _ _ _
  cases hx : xs[k1]? with
  | none =>
    refine wpAny_bind (next_end hh (n1.ext s1.extBut D.i1z) (m1.ext s1.extBut D.l1z) hx fun g2 e s2 he => ?_)
    obtain ⟨oe, hoe, hce⟩ := he
    have hz2 : IsZip g2 z TI TO .ellipsis := s2 _ _ D.i1z.symm hz1
    have hez : e ≠ z := fun q => by subst q; rw [hz2] at hoe; cases hoe; simp at hce
    exact wpAny_setField_rec hz2 (by simp) fun g3 _ s3 => fin g3 e (fun c o c1 _ c3 _ q => s3.extBut _ _ c1 (s2 _ _ c3 (s1.extBut _ _ c1 q))) ⟨oe, s3.extBut _ _ hez hoe, hce⟩
  | some x =>
    have hy : ys[k2]? = none := by
      rcases hend with q | q
      · rw [hx] at q; cases q
      · exact q
    refine wpAny_bind (next_item (n1.ext s1.extBut D.i1z) (m1.ext s1.extBut D.l1z) hx fun g2 n1' s2 => wpAny_pure ?_)
    have t2 : IsPair g2 TO a b := s2.extBut _ _ D.TOi1 (s1.extBut _ _ D.TOz hTO)
    refine wpAny_bind (wpAny_seqItems t2 rfl (wpAny_bind (wpAny_updateSeq_pair t2 fun g3 t3 s3 => wpAny_bind (wpAny_letGo (wpAny_pure ?_)))))
    refine wpAny_bind (wpAny_bind (wpAny_onRaise ?_))
    show wpAny _ _ (Builtin.SmallTypes.nextOf (.ref i2) >>= _) _ _ _
    refine wpAny_bind (next_end hh (((n2.ext s1.extBut D.i2z).ext s2.extBut D.i12.symm).ext s3.extBut D.TOi2.symm) (((m2.ext s1.extBut D.l2z).ext s2.extBut D.l2i1).ext s3.extBut D.l2TO) hy fun g4 e s4 he => ?_)
    obtain ⟨oe, hoe, hce⟩ := he
    have hz4 : IsZip g4 z TI TO .ellipsis := s4 _ _ D.i2z.symm (s3.extBut _ _ D.TOz.symm (s2.extBut _ _ D.i1z.symm hz1))
    have hez : e ≠ z := fun q => by subst q; rw [hz4] at hoe; cases hoe; simp at hce
    exact wpAny_setField_rec hz4 (by simp) fun g5 _ s5 => fin g5 e (fun c o c1 c2 c3 c4 q => s5.extBut _ _ c1 (s4 _ _ c4 (s3.extBut _ _ c2 (s2.extBut _ _ c3 (s1.extBut _ _ c1 q))))) ⟨oe, s5.extBut _ _ hez hoe, hce⟩
theorem iter_seq {b : Bool} {l : Addr} {xs : Array Value} {Q : Value → Shared → Prop} (m : SeqIs b s.heap l xs)
    (k : ∀ h', SeqIt b h' s.heap.objs.size l 0 → h'.objs.size = s.heap.objs.size + 1 → (∀ c o, s.heap.get? c = some o → h'.get? c = some o) → Q (.ref s.heap.objs.size) { s with heap := h' }) : wpAny (model prog w) A (pyIter (.ref l)) Q E s := by
  cases b with
  | true => exact wpAny_pyIter_list m (k _ ⟨_, Heap.get?_push_size _ rfl, rfl, rfl⟩ (Heap.size_push _ _) fun c o e => Heap.get?_push_of_some _ e)
  | false => exact wpAny_pyIter_tuple m (k _ ⟨_, Heap.get?_push_size _ rfl, rfl, rfl⟩ (Heap.size_push _ _) fun c o e => Heap.get?_push_of_some _ e)

abbrev itObj (b : Bool) (l : Addr) : Obj := { cls := .type (if b = true then "list_iterator" else "tuple_iterator"), data := .fields #[.ref l, .int 0 0] }
theorem iter_obj {b : Bool} {l : Addr} {xs : Array Value} {Q : Value → Shared → Prop} (m : SeqIs b s.heap l xs) (k : Q (.ref s.heap.objs.size) { s with heap := s.heap.push (itObj b l) }) : wpAny (model prog w) A (pyIter (.ref l)) Q E s := by
  cases b with
  | true => exact wpAny_pyIter_list m k
  | false => exact wpAny_pyIter_tuple m k
theorem itObj_at {b : Bool} {h : Heap} {a l : Addr} (e : h.get? a = some (itObj b l)) : SeqIt b h a l 0 := by
  cases b with
  | true => exact ⟨_, e, rfl, rfl⟩
  | false => exact ⟨_, e, rfl, rfl⟩
end
abbrev zp1 (b1 : Bool) (h : Heap) (l1 : Addr) : Heap := h.push (itObj b1 l1)
abbrev zp2 (b1 b2 : Bool) (h : Heap) (l1 l2 : Addr) : Heap := (zp1 b1 h l1).push (itObj b2 l2)
abbrev zp3 (b1 b2 : Bool) (h : Heap) (l1 l2 : Addr) : Heap := (zp2 b1 b2 h l1 l2).push { cls := .type "tuple", data := .seq #[.ref h.objs.size, .ref (zp1 b1 h l1).objs.size] }
abbrev zp4 (b1 b2 : Bool) (h : Heap) (l1 l2 : Addr) : Heap := (zp3 b1 b2 h l1 l2).push { cls := .type "tuple", data := .seq #[.none, .none] }
abbrev zp5 (b1 b2 : Bool) (h : Heap) (l1 l2 : Addr) : Heap := (zp4 b1 b2 h l1 l2).push { cls := .type "zip", data := .fields #[.none, .bool false, .bool false, .ref (zp2 b1 b2 h l1 l2).objs.size, .ref (zp3 b1 b2 h l1 l2).objs.size] }
theorem SeqIs.push {b : Bool} {h : Heap} {l : Addr} {xs : Array Value} (x : SeqIs b h l xs) (o : Obj) : SeqIs b (h.push o) l xs := x.at fun _ e => Heap.get?_push_of_some _ e
theorem zip_new (b1 b2 : Bool) (l1 l2 : Addr) (xs ys : Array Value) :
    Meets (Builtin.«zip.__new__» ⟨[.type "zip", .ref l1, .ref l2], []⟩) (fun _ R s => SeqIs b1 s.heap l1 xs ∧ SeqIs b2 s.heap l2 ys ∧ R (.ok (.ret (.ref (zp4 b1 b2 s.heap l1 l2).objs.size))) { s with heap := zp5 b1 b2 s.heap l1 l2 }) :=
  .of_wp fun prog w A R s h => by
    obtain ⟨hp, g, d, tk, os⟩ := s
    obtain ⟨m1, m2, h⟩ := h
    have hsub := sub_zip
    have M1 : SeqIs b1 (Shared.heap ⟨hp, g, d, tk, os⟩) l1 xs := m1
    have M2 : SeqIs b2 (Shared.heap ⟨hp.push (itObj b1 l1), g, d, tk, os⟩) l2 ys := SeqIs.push m2 _
    wp_walk using iter_obj M1, iter_obj M2
    exact ⟨_, rfl, h⟩
section
variable {prog : Program} {w : World} {A : Around} {E : Value → Shared → Prop} {s : Shared}
theorem zip_call {b1 b2 : Bool} {l1 l2 : Addr} {xs ys : Array Value} {Q : Value → Shared → Prop} (m1 : SeqIs b1 s.heap l1 xs) (m2 : SeqIs b2 s.heap l2 ys)
    (k : ∀ h', IsZip h' (s.heap.objs.size + 4) (s.heap.objs.size + 2) (s.heap.objs.size + 3) .none → IsPair h' (s.heap.objs.size + 2) (.ref s.heap.objs.size) (.ref (s.heap.objs.size + 1)) →
      IsPair h' (s.heap.objs.size + 3) .none .none → SeqIt b1 h' s.heap.objs.size l1 0 → SeqIt b2 h' (s.heap.objs.size + 1) l2 0 → (∀ c o, s.heap.get? c = some o → h'.get? c = some o) → Q (.ref (s.heap.objs.size + 4)) { s with heap := h' }) :
    wpAny (model prog w) A (call (.type "zip") [.ref l1, .ref l2]) Q E s := by
  refine callType_new F.called_zip (by decide) (F.typeCall_zip_2 _ _) (F.newCall_zip_2 _ _) (fun obj => F.args_object_init_3 obj _ _) F.entry_zip_new (zip_new b1 b2 l1 l2 xs ys) ⟨m1, m2, ?_⟩
  have z1 : (zp1 b1 s.heap l1).objs.size = s.heap.objs.size + 1 := Heap.size_push ..
  have z2 : (zp2 b1 b2 s.heap l1 l2).objs.size = s.heap.objs.size + 2 := by rw [Heap.size_push, z1]
  have z3 : (zp3 b1 b2 s.heap l1 l2).objs.size = s.heap.objs.size + 3 := by rw [Heap.size_push, z2]
  have z4 : (zp4 b1 b2 s.heap l1 l2).objs.size = s.heap.objs.size + 4 := by rw [Heap.size_push, z3]
  have q5 : (zp5 b1 b2 s.heap l1 l2).get? (zp4 b1 b2 s.heap l1 l2).objs.size = some _ := Heap.get?_push_size _ rfl
  have q4 : (zp5 b1 b2 s.heap l1 l2).get? (zp3 b1 b2 s.heap l1 l2).objs.size = some _ := Heap.get?_push_of_some _ (Heap.get?_push_size _ rfl)
  have q3 : (zp5 b1 b2 s.heap l1 l2).get? (zp2 b1 b2 s.heap l1 l2).objs.size = some _ := Heap.get?_push_of_some _ (Heap.get?_push_of_some _ (Heap.get?_push_size _ rfl))
  have q2 : (zp5 b1 b2 s.heap l1 l2).get? (zp1 b1 s.heap l1).objs.size = some _ := Heap.get?_push_of_some _ (Heap.get?_push_of_some _ (Heap.get?_push_of_some _ (Heap.get?_push_size _ rfl)))
  have q1 : (zp5 b1 b2 s.heap l1 l2).get? s.heap.objs.size = some _ := Heap.get?_push_of_some _ (Heap.get?_push_of_some _ (Heap.get?_push_of_some _ (Heap.get?_push_of_some _ (Heap.get?_push_size _ rfl))))
  show _ ∧ _
  rw [z2, z3, z4] at q5
  rw [z1, z2] at q3
  rw [z3] at q4
  rw [z1] at q2
  rw [z4]
  exact ⟨⟨_, q5, rfl⟩, k _ q5 q3 q4 (itObj_at q1) (itObj_at q2) fun c o x => Heap.get?_push_of_some _ (Heap.get?_push_of_some _ (Heap.get?_push_of_some _ (Heap.get?_push_of_some _ (Heap.get?_push_of_some _ x))))⟩
end
end L3

namespace L3
open PySem
open AutoSeq1 (wpAny_loadPart')

theorem enum_newT (l : Addr) (its : Array Value) (n : Nat) (dct : Option Addr) (sl : Array (Option Value)) :
    Meets (Builtin.«enumerate.__new__» ⟨[.type "enumerate", .ref l], []⟩) (fun _ R s => s.heap.get? l = some { cls := .type "tuple", dict := dct, data := .seq its n, slots := sl } ∧
      R (.ok (.ret (.ref (s.heap.push (itObj false l)).objs.size))) { s with heap := (s.heap.push (itObj false l)).push { cls := .type "enumerate", data := .fields #[.none, .bool false, .ref s.heap.objs.size, rawInt 0, .none, .none] } }) :=
  .of_wp fun prog w A R s h => by
    obtain ⟨hp, g, d, tk, os⟩ := s
    obtain ⟨q, h⟩ := h
    have hsub := sub_enumerate
    have M : SeqIs false (Shared.heap ⟨hp, g, d, tk, os⟩) l its := ⟨_, q, rfl, n, rfl⟩
    wp_walk using wpAny_loadPart' q
    refine wpAny_stack_any fun st => wpAny_pure ?_
    split
    · rename_i c _ _ _ _ _
      cases (c == Value.type "enumerate") <;> (wp_walk using wpAny_loadPart' q, iter_obj M; exact ⟨_, rfl, h⟩)
    · wp_walk using wpAny_loadPart' q, iter_obj M
      exact ⟨_, rfl, h⟩
section
variable {prog : Program} {w : World} {A : Around} {E : Value → Shared → Prop} {s : Shared}
theorem enum_call {b : Bool} {l : Addr} {xs : Array Value} {Q : Value → Shared → Prop} (m : SeqIs b s.heap l xs)
    (k : ∀ h', IsEnum h' (s.heap.objs.size + 1) s.heap.objs.size 0 .none → SeqIt b h' s.heap.objs.size l 0 → (∀ c o, s.heap.get? c = some o → h'.get? c = some o) → Q (.ref (s.heap.objs.size + 1)) { s with heap := h' }) :
    wpAny (model prog w) A (call (.type "enumerate") [.ref l]) Q E s := by
  cases b with
  | true => exact call_enumerate_list (show s.heap.IsList l xs from m) fun h' a1 a2 _ a4 => k h' a1 a2 a4
  | false =>
    obtain ⟨⟨c, dct, dt, sl⟩, hl, hc, n, hd⟩ := (show s.heap.IsTuple l xs from m)
    have hc : c = .type "tuple" := hc
    have hd : dt = .seq xs n := hd
    subst hc hd
    refine callType_new F.called_enumerate (by decide) (F.typeCall_enumerate_1 _) (F.newCall_enumerate_1 _) (fun obj => F.args_object_init_2 obj _) F.entry_enumerate_new (enum_newT l xs n dct sl) ⟨hl, ?_⟩
    have hz : (s.heap.push (itObj false l)).objs.size = s.heap.objs.size + 1 := Heap.size_push ..
    have he : IsEnum ((s.heap.push (itObj false l)).push { cls := .type "enumerate", data := .fields #[.none, .bool false, .ref s.heap.objs.size, rawInt 0, .none, .none] }) (s.heap.objs.size + 1) s.heap.objs.size 0 .none := by
      have q := Heap.get?_push_size (s.heap.push (itObj false l)) (o := { cls := .type "enumerate", data := .fields #[.none, .bool false, .ref s.heap.objs.size, rawInt 0, .none, .none] }) rfl
      rw [hz] at q
      exact q
    show _ ∧ _
    rw [hz]
    exact ⟨⟨_, he, rfl⟩, k _ he ⟨_, Heap.get?_push_of_some _ (Heap.get?_push_size _ rfl), rfl, rfl⟩ fun c o x => Heap.get?_push_of_some _ (Heap.get?_push_of_some _ x)⟩
/-- what enumerate draws from -/
theorem draws_seq {b : Bool} (hh : A.handled = none) (it l : Addr) (hne : l ≠ it) (xs : Array Value) : Draws prog w A it [it, l] xs.size (fun i v => xs[i]? = some v) (fun i h => SeqIt b h it l i ∧ SeqIs b h l xs) where
  live := fun _ _ st => let ⟨o, _, e, _⟩ := st.1.obj; ⟨o, e⟩
  frame := fun _ _ _ st hk => ⟨st.1.at fun o e => hk it (by simp) o e, st.2.at fun o e => hk l (by simp) o e⟩
  item := fun i s Q E hi st hQ => next_item st.1 st.2 (x := xs[i]) (by simp [hi]) fun h' n' sb => hQ _ h' s.toks (by simp [hi]) ⟨n', st.2.ext sb.extBut hne⟩ sb
  done := fun s Q E st hE => next_end hh st.1 st.2 (by simp) hE
end
end L3

namespace L2
open PySem PySem.Spec PyProof.Rows L3

/-! ### a comprehension's block -/
def cxC (X : Cx) (sc : Scope) (N : List Str) (s : Shared) (H : Hp) (ex : List Addr) (C : Addr) : Cx :=
  { X with N := N, s₀ := s, H₀ := H, env := compEnvC sc (clOf X.env.cells sc.names []) C X.env, outer := X.stack, ex := ex, fn := fun _ => false, pn := [], xe := fun _ _ => False }
/-- what the block's scope must be: own names, names drawn from around it (idx: their slots there) -/
structure ScC (X : Cx) (sc : Scope) (N : List Str) (idx : List Nat) : Prop where
  kind : sc.kind = .function
  nocell : ∀ y ∈ sc.names, y.2 ≠ .cell
  locs : ∀ y ∈ sc.names, y.2 = .local → sc.names.lookup y.1 = some .local
  frees : ∀ y ∈ sc.names, y.2 = .free → X.env.scope.names.lookup y.1 = some .cell
  le : idx.length ≤ N.length
  cap : ∀ (k i : Nat) (x : Str), idx[k]? = some i → N[k]? = some x → X.N[i]? = some x ∧ sc.names.lookup x = some .free
/-- the block's names at its start -/
def capS (idx : List Nat) (n : Nat) (σ : St) : St := idx.map (fun i => (σ[i]?).join) ++ List.replicate (n - idx.length) none
theorem capS_len {idx : List Nat} {n : Nat} {σ : St} (h : idx.length ≤ n) : (capS idx n σ).length = n := by
  unfold capS
  rw [List.length_append, List.length_map, List.length_replicate]
  omega
theorem capS_get {idx : List Nat} {n k : Nat} {σ : St} {v : V} (h : (capS idx n σ)[k]? = some (some v)) : ∃ i, idx[k]? = some i ∧ σ[i]? = some (some v) := by
  unfold capS at h
  by_cases hk : k < idx.length
  · rw [List.getElem?_append_left (by simpa using hk), List.getElem?_map] at h
    cases e : idx[k]? with
    | none => rw [e] at h; cases h
    | some i =>
      rw [e] at h
      have h' : (σ[i]?).join = some v := Option.some.inj h
      refine ⟨i, rfl, ?_⟩
      cases e2 : σ[i]? with
      | none => rw [e2] at h'; cases h'
      | some o => rw [e2] at h'; rw [show o = some v from h']
  · rw [List.getElem?_append_right (by simpa using hk), List.getElem?_replicate] at h
    split at h
    · cases h
    · cases h

/-- what relabel does to one name -/
def rl (env : Env) (p : Str × NameKind) : Str × NameKind := if (p.2 == NameKind.free && env.scope.kind == .function && env.kindOf p.1 == some .cell) = true then (p.1, NameKind.cell) else p
theorem rl_names (sc : Scope) (env : Env) : (relabel sc env).names = sc.names.map (rl env) := rfl
theorem rl_hit {env : Env} {n : Str} {k : NameKind} (h : (k == NameKind.free && env.scope.kind == .function && env.kindOf n == some .cell) = true) : rl env (n, k) = (n, .cell) := if_pos h
theorem rl_miss {env : Env} {n : Str} {k : NameKind} (h : ¬ (k == NameKind.free && env.scope.kind == .function && env.kindOf n == some .cell) = true) : rl env (n, k) = (n, k) := if_neg h
theorem relabel_free {env : Env} (hf : env.scope.kind = .function) : ∀ {names : List (Str × NameKind)} {x : Str}, names.lookup x = some .free → env.kindOf x = some .cell → (names.map (rl env)).lookup x = some .cell
  | [], _, h, _ => by simp at h
  | (n, k) :: r, x, h, hc => by
    have ih := @relabel_free env hf r x
    rw [List.map_cons]
    by_cases hx : x = n
    · subst hx
      rw [List.lookup_cons_self] at h
      cases h
      rw [rl_hit (by rw [hf, hc]; decide), List.lookup_cons_self]
    · have hb : (x == n) = false := beq_eq_false_iff_ne.mpr hx
      rw [List.lookup_cons, hb] at h
      have e := ih h hc
      by_cases q : (k == NameKind.free && env.scope.kind == .function && env.kindOf n == some .cell) = true
      · rw [rl_hit q, List.lookup_cons, hb]; exact e
      · rw [rl_miss q, List.lookup_cons, hb]; exact e
theorem relabel_back {env : Env} : ∀ {names : List (Str × NameKind)} {x : Str} {kd : NameKind}, (names.map (rl env)).lookup x = some kd → (x, kd) ∈ names ∨ (x, NameKind.free) ∈ names
  | [], _, _, h => by simp at h
  | (n, k) :: r, x, kd, h => by
    have ih := @relabel_back env r x kd
    rw [List.map_cons] at h
    by_cases q : (k == NameKind.free && env.scope.kind == .function && env.kindOf n == some .cell) = true
    · rw [rl_hit q] at h
      by_cases hx : x = n
      · subst hx
        have hk : k = .free := by
          rw [Bool.and_eq_true, Bool.and_eq_true] at q
          exact eq_of_beq q.1.1
        subst hk
        exact .inr List.mem_cons_self
      · have hb : (x == n) = false := beq_eq_false_iff_ne.mpr hx
        rw [List.lookup_cons, hb] at h
        exact (ih h).elim (fun e => .inl (List.mem_cons_of_mem _ e)) fun e => .inr (List.mem_cons_of_mem _ e)
    · rw [rl_miss q] at h
      by_cases hx : x = n
      · subst hx
        rw [List.lookup_cons_self] at h
        cases h
        exact .inl List.mem_cons_self
      · have hb : (x == n) = false := beq_eq_false_iff_ne.mpr hx
        rw [List.lookup_cons, hb] at h
        exact (ih h).elim (fun e => .inl (List.mem_cons_of_mem _ e)) fun e => .inr (List.mem_cons_of_mem _ e)

/-- an untracked young object is tracked from here on -/
theorem Inv.adopt {X : Cx} {pins : List (Addr × Obj)} {σ : St} {H : Hp} {s : Shared} {a : Addr} {o : HO} (I : Inv X pins σ H s) (hn : H a = none) (ya : X.s₀.heap.objs.size ≤ a) (hL : a ≠ X.env.locals)
    (hc : ∀ x c, X.env.cells.lookup x = some c → c ≠ a) (hp : ∀ p ∈ X.pn ++ pins, p.1 ≠ a) (new : ObjOk X.prog X.w (upd H a o) s.heap a o) : Inv X pins σ (upd H a o) s := by
  have ne : ∀ b u, H b = some u → b ≠ a := fun b u e => ne_of_none e hn
  refine ⟨I.ok, I.os, I.bare, ⟨I.base.keep, I.base.slot, fun b u q n hx => ?_, I.base.there, fun b xs q => ?_, fun b u xs q => ?_, fun b ps q => ?_⟩, I.loc, I.cell, ?_, fun x c e => ?_, fun p hq => ?_, fun b u q => ?_, I.len⟩
  · rw [upd_ne (Nat.ne_of_lt (Nat.lt_of_lt_of_le (Heap.lt_size q) ya))]
    exact I.base.free b u q n hx
  · have e := I.base.tups b xs q
    rw [upd_ne (ne b _ e)]; exact e
  · have e := I.base.frzs b u xs q
    rw [upd_ne (ne b _ e)]; exact e
  · obtain ⟨m, e⟩ := I.base.tbls b ps q
    exact ⟨m, by rw [upd_ne (ne b _ e)]; exact e⟩
  · rw [upd_ne (Ne.symm hL)]; exact I.free
  · rw [upd_ne (hc x c e)]; exact I.freeC x c e
  · obtain ⟨e1, e2, e3⟩ := I.pin p hq
    exact ⟨e1, by rw [upd_ne (hp p hq)]; exact e2, e3⟩
  · by_cases hb : b = a
    · subst hb; rw [upd_same] at q; cases q; exact new
    · rw [upd_ne hb] at q
      exact (I.hok b u q).stay (fun _ _ _ z => z) (fun c z => by rw [upd_ne (ne c _ z)]; exact z) fun c xs z => by rw [upd_ne (ne c _ z)]; exact z

section
variable {X : Cx} {pins : List (Addr × Obj)} {σ : St} {H : Hp} {s : Shared} {sc : Scope} {N : List Str} {idx : List Nat} {fp : List Addr}
abbrev nilObj : Obj := { cls := .type "list", data := .seq ([] : List Value).toArray }
abbrev withAcc (s : Shared) : Shared := { s with heap := s.heap.push nilObj }
theorem young_fp (I : Inv X pins σ H s) {b : Addr} (h : FpOk X pins H b) : X.base.get? b = none := by
  cases e : X.base.get? b with
  | none => rfl
  | some o =>
    rcases h.2.2.2.1 with z | z
    · exact absurd z (I.ok.noex b o e)
    · exact absurd (Nat.lt_of_lt_of_le (Heap.lt_size e) (Nat.le_trans I.ok.bsz z)) (Nat.lt_irrefl _)
/-- the block is entered -/
theorem comp_inv (I : Inv X pins σ H s) (S : ScC X sc N idx) (hf : ∀ b ∈ fp, FpOk X pins H b) (ho : ∀ b ∈ fp, ∃ o, s.heap.get? b = some o) {h' : Heap} {m : Str → Option Value} {t : Nat}
    (hns : h'.Ns (s.heap.push nilObj).objs.size m) (hk : ∀ b o, (s.heap.push nilObj).get? b = some o → h'.get? b = some o) :
    Inv (cxC X sc N (withAcc s) H (s.heap.objs.size :: fp) (s.heap.push nilObj).objs.size) [] (capS idx N.length σ) H { withAcc s with heap := h', toks := t } := by
  have I3 : Inv X pins σ H (withAcc s) := I.kept (t' := s.toks) fun b o e => Heap.get?_push_of_some _ e
  have hC : (s.heap.push nilObj).objs.size = s.heap.objs.size + 1 := Heap.size_push _ _
  have cl_sub : ∀ x c, (clOf X.env.cells sc.names []).lookup x = some c → X.env.cells.lookup x = some c := clOf_sub sc.names [] (fun x c e => by cases e)
  have clt : ∀ x c, (clOf X.env.cells sc.names []).lookup x = some c → c < s.heap.objs.size := fun x c e => by
    obtain ⟨v, z⟩ := I.cell x c (cl_sub x c e)
    exact z.lt
  have flt : ∀ b ∈ fp, b < s.heap.objs.size := fun b hb => by
    obtain ⟨o, e⟩ := ho b hb
    exact Heap.lt_size e
  have back : ∀ x, ((relabel sc X.env).names.lookup x = some .cell ∨ (relabel sc X.env).names.lookup x = some .free) → (x, NameKind.free) ∈ sc.names := fun x h => by
    rcases h with h | h
    · rcases relabel_back (env := X.env) (names := sc.names) (show (sc.names.map (rl X.env)).lookup x = _ from h) with e | e
      · exact absurd rfl (S.nocell _ e)
      · exact e
    · rcases relabel_back (env := X.env) (names := sc.names) (show (sc.names.map (rl X.env)).lookup x = _ from h) with e | e
      · exact e
      · exact e
  have has : ∀ x, (x, NameKind.free) ∈ sc.names → ∃ c, (clOf X.env.cells sc.names []).lookup x = some c := fun x e =>
    clOf_has sc.names [] x e (I.ok.has x (.inl (S.frees _ e rfl)))
  refine ⟨⟨I.ok.mod, S.kind, I.ok.glob, I.ok.blt, Nat.le_refl _, fun x y c e1 e2 => I.ok.inj x y c (cl_sub x c e1) (cl_sub y c e2), fun x h => has x (back x h), fun x c h => (by cases h), I.ok.hd, I.ok.frames, .inl rfl, fun b hb => ?_, I3.bs,
    Nat.le_trans I.ok.bsz I3.sz, fun b o e hb => ?_, fun b hb => ?_, I3.stack, I3.stkFree⟩, I.os ▸ rfl, I.bare, Un.kept hk, ⟨m, hns, fun k x v e1 e2 e3 => ?_⟩, fun x c e => ?_, I3.hok.fresh (Nat.le_refl _), fun x c e => I.freeC x c (cl_sub x c e),
    fun p hp => absurd (show p ∈ ([] : List (Addr × Obj)) from hp) (by simp), I3.hok.kept hk, capS_len S.le⟩
  · rcases List.mem_cons.mp hb with e | hb
    · subst e
      exact ⟨by rw [hC]; exact Nat.ne_of_lt (Nat.lt_succ_self _), fun x c e => Nat.ne_of_lt (clt x c e)⟩
    · refine ⟨by rw [hC]; exact Nat.ne_of_lt (Nat.lt_succ_of_lt (flt b hb)), fun x c e => (hf b hb).2.2.2.2.1 x c (cl_sub x c e)⟩
  · rcases List.mem_cons.mp hb with z | hb
    · subst z
      exact absurd (Heap.lt_size (I.bk _ _ e)) (Nat.lt_irrefl _)
    · have e' : X.base.get? b = some o := e
      rw [young_fp I (hf b hb)] at e'; cases e'
  · intro hs
    have hs' := I.stkSub b hs
    rcases List.mem_cons.mp hb with z | hb
    · subst z
      rcases List.mem_cons.mp hs' with e | e
      · exact absurd I.lt (by rw [← e]; exact Nat.lt_irrefl _)
      · exact I.nofs (Nat.le_refl _) e
    · rcases List.mem_cons.mp hs' with e | e
      · exact (hf b hb).2.1 e
      · exact (hf b hb).2.2.1 e
  · obtain ⟨i, h1, h2⟩ := capS_get e2
    obtain ⟨h3, h4⟩ := S.cap k i x h1 e1
    have hfr : (x, NameKind.free) ∈ sc.names := PySem.mem_of_lookup h4
    have hcell : X.env.scope.names.lookup x = some .cell := S.frees _ hfr rfl
    obtain ⟨m', hn', hl'⟩ := I.loc
    obtain ⟨u, r, l⟩ := hl' i x v h3 h2 (.inr (.inl hcell))
    refine ⟨u, r, .inr ⟨.inl (relabel_free I.ok.kind h4 hcell), ?_⟩⟩
    rcases l with ⟨q, _⟩ | ⟨_, c, ec, z⟩
    · have q' : X.env.scope.names.lookup x = some .local := q
      rw [hcell] at q'; cases q'
    · obtain ⟨c', ec'⟩ := has x hfr
      have := cl_sub x c' ec'
      rw [ec] at this; cases this
      exact ⟨c, ec', z.keeps fun b o e => hk b o (Heap.get?_push_of_some _ e)⟩
  · obtain ⟨v, z⟩ := I.cell x c (cl_sub x c e)
    exact ⟨v, z.keeps fun b o e => hk b o (Heap.get?_push_of_some _ e)⟩
/-- the block is left -/
theorem comp_out {σ' : St} {H' : Hp} {s' : Shared} {pl : List (Addr × Obj)} (I : Inv X pins σ H s) (hf : ∀ b ∈ fp, FpOk X pins H b)
    (I' : Inv (cxC X sc N (withAcc s) H (s.heap.objs.size :: fp) (s.heap.push nilObj).objs.size) pl σ' H' s') : Inv X pins σ H' s' := by
  have I3 : Inv X pins σ H (withAcc s) := I.kept (t' := s.toks) fun b o e => Heap.get?_push_of_some _ e
  have fa : FpOk X pins H s.heap.objs.size := I.fpOk (Nat.le_refl _) (I.hok.fresh (Nat.le_refl _))
  refine I3.call' (ch := s.heap.objs.size :: fp) (I'.os.trans rfl) I'.base I'.hok I'.bare fun b hb => ?_
  have q : FpOk X pins H b := by
    rcases List.mem_cons.mp hb with e | hb
    · subst e; exact fa
    · exact hf b hb
  exact ⟨q.2.2.2.1, q.2.1, q.2.2.2.2.1, q.2.2.2.2.2⟩
end

/-! ### the reading -/
abbrev TTs := St → Hp → (Bool → Hp → Prop) → Prop
/-- no test, one test -/
def tYes : TTs := fun _ H Q => Q true H
def PTs (X : Cx) (ifs : List Expr) (t : TTs) : Prop :=
  ∀ (pins : List (Addr × Obj)) (s : Shared) (σ : St) (H : Hp) (Q : Bool → Hp → Prop), Inv X pins σ H s → t σ H Q → wpAny (model X.prog X.w) X.A (tests ifs X.env) (TP X pins σ Q) X.xe s
theorem pts_nil {X : Cx} : PTs X [] tYes := fun _ _ _ H _ I h => tests_nil ⟨H, I, h⟩
theorem pts_one {X : Cx} {c : Expr} {t : TT} (h : PT X c t) : PTs X [c] t := fun pins s σ H Q I q => tests_one (h pins s σ H Q I q)

/-- the first n slots are as they were -/
def KeepN (n : Nat) (σ σ2 : St) : Prop := σ2.length = σ.length ∧ ∀ i, i < n → σ2[i]? = σ[i]?
/-- W: by the turn, a measure, what is gathered, the heap; σ0: the block's names at each turn's start -/
def CompW (J : It) (g : TG) (tc : TTs) (te : TE) (σ0 : St) (H1 : Hp) (K : List V → Hp → Prop) : Prop :=
  ∃ W : Nat → Nat → List V → Hp → Prop, (∃ m, W 0 m [] H1) ∧ ∀ i m ys H, W i m ys H →
    (J.stop i H ∧ K ys H) ∨
    (J.go i H ∧ ys.length < sizeLine ∧ ∃ N : List V → Hp → Prop, (∀ zs H', N zs H' → ∃ m', m' < m ∧ W (i + 1) m' zs H') ∧
      ∀ x H', J.yld i H x H' → g x σ0 H' fun σ2 H2 => tc σ2 H2 fun b H3 => if b = true then te σ2 H3 (fun y H4 => N (ys ++ [y]) H4) else N ys H3)
def tComp (wi : TI) (g : TG) (tc : TTs) (te : TE) (idx : List Nat) (n : Nat) : TE := fun σ H Q => wi σ H fun J H1 =>
  CompW J g tc te (capS idx n σ) H1 fun ys H2 => ys.length ≤ sizeLine ∧ ∀ p, H2 p = none → Q (.ref p) (upd H2 p (.lst ys))
/-- a target touches its own slots alone -/
def GKeep (n : Nat) (g : TG) : Prop := ∀ x σ H Q, g x σ H Q → g x σ H fun σ2 H2 => Q σ2 H2 ∧ KeepN n σ σ2
theorem keep_set {n k : Nat} {σ : St} {v : Option V} (h : n ≤ k) : KeepN n σ (σ.set k v) := ⟨List.length_set, fun i hi => List.getElem?_set_ne (by omega)⟩
theorem gkeep_name {n k : Nat} (h : n ≤ k) : GKeep n (gName k) := fun x σ H Q q => ⟨q, keep_set h⟩
theorem gkeep_pair {K : PySem.W.Frag} {n k l : Nat} (h : n ≤ k) (h' : n ≤ l) : GKeep n (gTup K 2 (gCons (gName k) (gCons (gName l) gNil))) := fun x σ H Q q => by
  obtain ⟨a, xs, e1, e2, e3, v, r, e4, v', r', e5, e6, q⟩ := q
  refine ⟨a, xs, e1, e2, e3, v, r, e4, v', r', e5, e6, q, ?_⟩
  have k1 : KeepN n σ (σ.set k (some v)) := keep_set h
  have k2 : KeepN n (σ.set k (some v)) ((σ.set k (some v)).set l (some v')) := keep_set h'
  exact ⟨k2.1.trans k1.1, fun i hi => (k2.2 i hi).trans (k1.2 i hi)⟩
theorem weak_cap {X : Cx} {pins : List (Addr × Obj)} {σ σ2 : St} {H : Hp} {s : Shared} {idx : List Nat} {n : Nat} (I : Inv X pins σ2 H s) (k : KeepN idx.length (capS idx n σ) σ2) : Inv X pins (capS idx n σ) H s :=
  I.weak k.1.symm fun i v e => by
    obtain ⟨j, h1, _⟩ := capS_get e
    rw [k.2 i (List.getElem?_eq_some_iff.mp h1).1]
    exact e
/-- the usual form: n turns, P between them -/
theorem compW_of {J : It} {g : TG} {tc : TTs} {te : TE} {σ0 : St} {H1 : Hp} {K : List V → Hp → Prop} {n : Nat} (P : Nat → List V → Hp → Prop) (hn : n ≤ sizeLine) (h0 : P 0 [] H1) (hle : ∀ i ys H, P i ys H → ys.length ≤ i)
    (hgo : ∀ i ys H, i < n → P i ys H → J.go i H) (hst : ∀ ys H, P n ys H → J.stop n H)
    (hs : ∀ i ys H, i < n → P i ys H → ∀ x H', J.yld i H x H' → g x σ0 H' fun σ2 H2 => tc σ2 H2 fun b H3 => if b = true then te σ2 H3 (fun y H4 => P (i + 1) (ys ++ [y]) H4) else P (i + 1) ys H3)
    (hd : ∀ ys H, P n ys H → K ys H) : CompW J g tc te σ0 H1 K := by
  refine ⟨fun i m ys H => m = n - i ∧ i ≤ n ∧ P i ys H, ⟨n, by simp, Nat.zero_le _, h0⟩, ?_⟩
  rintro i m ys H ⟨rfl, hi, p⟩
  by_cases hlt : i < n
  · refine .inr ⟨hgo i ys H hlt p, by have := hle i ys H p; omega, P (i + 1), fun zs H' p' => ⟨n - (i + 1), by omega, rfl, hlt, p'⟩, hs i ys H hlt p⟩
  · have e : i = n := by omega
    subst e
    exact .inl ⟨hst ys H p, hd ys H p⟩

section
variable {X : Cx} {tg elt iter : Expr} {ifs : List Expr} {wi : TI} {g : TG} {tc : TTs} {te : TE} {sc : Scope} {N : List Str} {idx : List Nat} {pos : Pos}
/-- the block run: at its end the list gathered stands at the address ahead of the frame -/
theorem comp_run {pins : List (Addr × Obj)} {s : Shared} {σ : St} {H : Hp} {K : List V → Hp → Prop} {E : Value → Shared → Prop} {RR : Addr → Value → Result → Shared → Prop} (hc : X.calm = true) (S : ScC X sc N idx) (gk : GKeep idx.length g)
    (hg : ∀ s H ex C, PG (cxC X sc N s H ex C) tg g) (ht : ∀ s H ex C, PTs (cxC X sc N s H ex C) ifs tc) (he : ∀ s H ex C, PE (cxC X sc N s H ex C) elt te)
    {it : Addr} {fp : List Addr} {tn : Nat → Heap → Prop} {J : It} (I : Inv X pins σ H s) (T : Turn X.prog X.w X.K tg J fp it tn) (st : tn 0 s.heap) (hf : ∀ b ∈ fp, FpOk X pins H b) (hW : CompW J g tc te (capS idx N.length σ) H K)
    (hR : ∀ (s' : Shared) (ys : List V) (H' : Hp) (m : Str → Option Value) (its : List Value) (n : Nat), K ys H' → Inv X pins σ H' s' → s'.heap.Ns (s.heap.push nilObj).objs.size m → H' (s.heap.push nilObj).objs.size = none → H' s.heap.objs.size = none → Vals ys its →
      s'.heap.get? s.heap.objs.size = some { cls := .type "list", data := .seq its.toArray n } → RR (s.heap.push nilObj).objs.size (.ref s.heap.objs.size) (.ok .next) s') :
    wpAny (model X.prog X.w) X.A (newList []) (fun acc s₃ => wpAny (model X.prog X.w) X.A (newFunctionEnv sc X.env.globals (clOf X.env.cells sc.names []) [] X.env.qual none .none (some X.env)) (fun cenv s₄ =>
      codeAny (model X.prog X.w) X.A (.compStart (.ListComp elt [⟨tg, iter, ifs, 0⟩] sc pos) 0 (.ref it) acc { cenv with scope := relabel sc X.env }) (RR cenv.locals acc) s₄) E s₃) E s := by
  obtain ⟨W, ⟨m0, w0⟩, turn⟩ := hW
  refine wpAny_newObj_type (wpAny_newFunctionEnv S.nocell (by intro y hy; cases hy) (fun h' hns hsb => ?_) S.kind)
  have hC : (s.heap.push nilObj).objs.size = s.heap.objs.size + 1 := Heap.size_push _ _
  have hk : ∀ b o, (s.heap.push nilObj).get? b = some o → h'.get? b = some o := fun b o e => (hsb.2 b (Nat.ne_of_lt (Heap.lt_size e))).trans (Heap.get?_push_of_some _ e)
  have ho : ∀ b ∈ fp, ∃ o, s.heap.get? b = some o := fun b hb => let ⟨o, e, _⟩ := T.obj _ _ st b hb; ⟨o, e⟩
  have I0 := comp_inv (t := s.toks + ([] : List (Str × Value)).length) I S hf ho hns hk
  have fn : ∀ b ∈ fp, b ≠ s.heap.objs.size := fun b hb => by
    obtain ⟨o, e⟩ := ho b hb
    exact Nat.ne_of_lt (Heap.lt_size e)
  have accN : H s.heap.objs.size = none := I.hok.fresh (Nat.le_refl _)
  -- an iterator's record in the block's eyes
  have fpC : ∀ {H' : Hp} {pl : List (Addr × Obj)}, (∀ b ∈ fp, H' b = none) → (∀ p ∈ pl, p.1 = s.heap.objs.size) → ∀ b ∈ fp, FpOk (cxC X sc N (withAcc s) H (s.heap.objs.size :: fp) (s.heap.push nilObj).objs.size) pl H' b := fun {H' pl} hn hp b hb => by
    refine ⟨hn b hb, (I0.ok.exf b (List.mem_cons_of_mem _ hb)).1, I0.ok.exfs b (List.mem_cons_of_mem _ hb), .inl (List.mem_cons_of_mem _ hb), (I0.ok.exf b (List.mem_cons_of_mem _ hb)).2, fun p hq => ?_⟩
    have hq' : p ∈ pl := by simpa [cxC] using hq
    rw [hp p hq']
    exact Ne.symm (fn b hb)
  have loop : codeAny (model X.prog X.w) X.A (.compLoop (.ListComp elt [⟨tg, iter, ifs, 0⟩] sc pos) 0 (.ref it) (.ref s.heap.objs.size) (compEnvC sc (clOf X.env.cells sc.names []) (s.heap.push nilObj).objs.size X.env))
      (RR (s.heap.push nilObj).objs.size (.ref s.heap.objs.size)) { withAcc s with heap := h', toks := s.toks + ([] : List (Str × Value)).length } := by
    refine comp_loop (EE := fun _ _ => False) (fun n s' => ∃ i ys H' its k, Inv (cxC X sc N (withAcc s) H (s.heap.objs.size :: fp) (s.heap.push nilObj).objs.size) [] (capS idx N.length σ) H' s' ∧ tn i s'.heap ∧ (∀ b ∈ fp, H' b = none) ∧ H' s.heap.objs.size = none ∧
      Vals ys its ∧ s'.heap.get? s.heap.objs.size = some { cls := .type "list", data := .seq its.toArray k } ∧ W i n ys H') (fun _ _ z => z.elim) ?_ m0 ?_
    · rintro n s3 ⟨i, ys, H3, its, kk, I3, st3, fr3, an3, rv3, ac3, w3⟩
      have accC : ∀ {H' : Hp}, H' s.heap.objs.size = none → FpOk (cxC X sc N (withAcc s) H (s.heap.objs.size :: fp) (s.heap.push nilObj).objs.size) [] H' s.heap.objs.size := fun {H'} hn =>
        ⟨hn, (I0.ok.exf _ List.mem_cons_self).1, I0.ok.exfs _ List.mem_cons_self, .inl List.mem_cons_self, (I0.ok.exf _ List.mem_cons_self).2, fun p hq => absurd (show p ∈ ([] : List (Addr × Obj)) from hq) (by simp)⟩
      have P3 : Inv (cxC X sc N (withAcc s) H (s.heap.objs.size :: fp) (s.heap.push nilObj).objs.size) [(s.heap.objs.size, { cls := .type "list", data := .seq its.toArray kk })] (capS idx N.length σ) H3 s3 := I3.pins_of fun p hp => by
        have e : p = (s.heap.objs.size, { cls := .type "list", data := .seq its.toArray kk }) := by simpa using hp
        subst e
        exact ⟨ac3, an3, (accC an3).2.1, (accC an3).2.2.1, fun v z => by cases z⟩
      have one : ∀ p ∈ [((s.heap.objs.size, { cls := .type "list", data := .seq its.toArray kk }) : Addr × Obj)], p.1 = s.heap.objs.size := fun p hp => by
        have e : p = (s.heap.objs.size, { cls := .type "list", data := .seq its.toArray kk }) := by simpa using hp
        rw [e]
      rcases turn i n ys H3 w3 with ⟨stop, kq⟩ | ⟨go, hz, NN, hNN, step⟩
      · refine thn (T.done (cxC X sc N (withAcc s) H (s.heap.objs.size :: fp) (s.heap.push nilObj).objs.size) rfl rfl rfl hc i _ s3 _ H3 _ P3 (fpC fr3 one) st3 stop) fun r s4 ⟨hr, I4⟩ => ⟨fun _ => ?_, fun v e => (by rw [hr] at e; cases e)⟩
        obtain ⟨m', hn', _⟩ := I4.loc
        exact hR s4 ys H3 m' its kk kq (comp_out I hf I4) hn' I4.free an3 rv3 (I4.pin _ (List.mem_append_right _ List.mem_cons_self)).1
      · refine thn (T.item (cxC X sc N (withAcc s) H (s.heap.objs.size :: fp) (s.heap.push nilObj).objs.size) rfl rfl rfl hc i _ s3 _ H3 _ P3 (fpC fr3 one) st3 go) fun r s4 ⟨u, hr, h4⟩ => ⟨fun e => (by rw [hr] at e; cases e), fun v e => ?_⟩
        rw [hr] at e
        cases e
        refine thn h4 fun _ s5 ⟨x, H5, I5, r5, y5, st5, fr5⟩ => ?_
        have I5' := I5.pinned (fpC fr5 one) (T.obj _ _ st5)
        refine thn (hg _ _ _ _ _ s5 _ H5 x u _ I5' r5 (gk _ _ _ _ (step x H5 y5))) fun _ s6 ⟨σ6, H6, I6, q6, k6⟩ => ?_
        refine thn (ht _ _ _ _ _ s6 σ6 H6 _ I6 q6) fun ok s7 ⟨H7, I7, q7⟩ => ⟨fun e => ?_, fun e => ?_⟩
        · subst e
          rw [if_pos rfl] at q7
          refine thn (he _ _ _ _ _ s7 σ6 H7 _ I7 q7) fun v s8 ⟨y, H8, I8, r8, n8⟩ => ?_
          obtain ⟨m', hm, w8⟩ := hNN _ _ n8
          have pa := I8.pin (s.heap.objs.size, { cls := .type "list", data := .seq its.toArray kk }) (List.mem_append_right _ (List.mem_append_left _ List.mem_cons_self))
          have hlen := rv3.length
          refine wpAny_list_append_plain (items := its.toArray) ⟨kk, pa.1⟩ (fun h9 pl9 sb9 => ?_) (by rw [List.size_toArray]; omega)
          have I8' : Inv (cxC X sc N (withAcc s) H (s.heap.objs.size :: fp) (s.heap.push nilObj).objs.size) (pinsAt fp s5.heap) σ6 H8 s8 := I8.pins_of fun p hp => I8.pin p (List.mem_append_right _ (List.mem_append_right _ hp))
          have I9 := I8'.turned (h' := h9) (t' := s8.toks) (it := s.heap.objs.size) (fun b o hb e => (sb9.2 b hb).trans e) pa.2.1 (accC pa.2.1).2.1 (.inl List.mem_cons_self) (accC pa.2.1).2.2.2.2.1 (fun p hp => by
            have hp' : p ∈ pinsAt fp s5.heap := by simpa [cxC] using hp
            exact fn p.1 (of_pinsAt hp').1)
          obtain ⟨k9, e9⟩ := pl9
          refine ⟨m', hm, i + 1, ys ++ [y], H8, its ++ [v], k9, weak_cap (I9.pins_of (fun p hp => absurd hp (by simp))) k6, T.keep _ _ _ st5 fun b hb o e => ?_, fun b hb => ?_, pa.2.1, rv3.append (.cons r8 .nil), ?_, w8⟩
          · have q := (I8'.pin (b, o) (List.mem_append_right _ (mem_pinsAt hb e))).1
            exact (sb9.2 b (fn b hb)).trans q
          · obtain ⟨o, e, _⟩ := T.obj _ _ st5 b hb
            exact (I8'.pin (b, o) (List.mem_append_right _ (mem_pinsAt hb e))).2.1
          · rw [e9]
            simp
        · subst e
          rw [if_neg Bool.false_ne_true] at q7
          obtain ⟨m', hm, w7⟩ := hNN _ _ q7
          have pa := I7.pin (s.heap.objs.size, { cls := .type "list", data := .seq its.toArray kk }) (List.mem_append_right _ (List.mem_append_left _ List.mem_cons_self))
          refine ⟨m', hm, i + 1, ys, H7, its, kk, weak_cap (I7.pins_of (fun p hp => absurd hp (by simp))) k6, T.keep _ _ _ st5 fun b hb o e => ?_, fun b hb => ?_, pa.2.1, rv3, pa.1, w7⟩
          · exact (I7.pin (b, o) (List.mem_append_right _ (List.mem_append_right _ (mem_pinsAt hb e)))).1
          · obtain ⟨o, e, _⟩ := T.obj _ _ st5 b hb
            exact (I7.pin (b, o) (List.mem_append_right _ (List.mem_append_right _ (mem_pinsAt hb e)))).2.1
    · exact ⟨0, [], H, [], 0, I0, T.keep _ _ _ st fun b hb o e => hk b o (Heap.get?_push_of_some _ e), fun b hb => (hf b hb).1, accN, .nil, hk _ _ (Heap.get?_push_size _ rfl), w0⟩
  exact codeAny_compStart_list loop (T.self _ 0 _ _ _ (T.keep _ _ _ st fun b hb o e => hk b o (Heap.get?_push_of_some _ e)) loop)
/-- [elt for tg in iter if ..] -/
theorem pe_comp (hc : X.calm = true) (S : ScC X sc N idx) (gk : GKeep idx.length g) (hi : PI X tg iter wi)
    (hg : ∀ s H ex C, PG (cxC X sc N s H ex C) tg g) (ht : ∀ s H ex C, PTs (cxC X sc N s H ex C) ifs tc) (he : ∀ s H ex C, PE (cxC X sc N s H ex C) elt te)
    (hs : ∀ x, foldedSetIterable iter X.env x = pure x := by intro _; rfl) : PE X (.ListComp elt [⟨tg, iter, ifs, 0⟩] sc pos) (tComp wi g tc te idx N.length) := by
  intro pins s σ H Q I h
  rw [eval_ListComp]
  have hcl : closureFor sc X.env = pure (clOf X.env.cells sc.names []) := closure_of fun p hp e => I.ok.has p.1 (.inl (S.frees p hp e))
  refine wpAny_comprehension_free (use := none) rfl hs hcl S.kind S.locs (thn (hi pins s σ H _ I h) fun v s1 h1 => thn h1 fun itv s2 h2 => ?_)
  obtain ⟨it, fp, tn, J, H2, e, I2, T, st2, f2, hW⟩ := h2
  subst e
  refine comp_run (RR := fun C acc => compPost (model X.prog X.w) X.A X.xe none (EP X pins σ Q) acc C) hc S gk hg ht he I2 T st2 f2 hW fun s' ys H' m its n kq I' hns hCn hAn rv ea => ?_
  have hC : (s2.heap.push nilObj).objs.size = s2.heap.objs.size + 1 := Heap.size_push _ _
  have fa : FpOk X pins H2 s2.heap.objs.size := I2.fpOk (Nat.le_refl _) (I2.hok.fresh (Nat.le_refl _))
  have fC : FpOk X pins H2 (s2.heap.push nilObj).objs.size := I2.fpOk (by rw [hC]; exact Nat.le_succ _) (I2.hok.fresh (by rw [hC]; exact Nat.le_succ _))
  have ya : X.s₀.heap.objs.size ≤ s2.heap.objs.size := I2.sz
  have I1 := Inv.adopt (o := .lst ys) I' hAn ya fa.2.1 fa.2.2.2.2.1 fa.2.2.2.2.2 ⟨kq.1, its, n, rv, ea⟩
  refine ⟨m, hns, fun h' sb => ⟨.ref s2.heap.objs.size, _, I1.turned (h' := h') (t' := s'.toks) (it := (s2.heap.push nilObj).objs.size) (fun b o hb e => (sb.2 b hb).trans e) ?_ fC.2.1 (.inr (by rw [hC]; exact Nat.le_succ_of_le ya)) fC.2.2.2.2.1 fC.2.2.2.2.2, rfl, kq.2 _ hAn⟩⟩
  rw [upd_ne (by rw [hC]; exact Nat.succ_ne_self _)]
  exact hCn
/-- x = [elt for tg in iter if ..], x a plain local name: stored ahead of the block's end -/
theorem ps_setComp {i : Nat} {x : Str} {pos' spos : Pos} (hN : X.N.Nodup) (hx : X.N[i]? = some x) (hl : X.env.scope.names.lookup x = some .local) (hc : X.calm = true) (S : ScC X sc N idx) (gk : GKeep idx.length g) (hi : PI X tg iter wi)
    (hg : ∀ s H ex C, PG (cxC X sc N s H ex C) tg g) (ht : ∀ s H ex C, PTs (cxC X sc N s H ex C) ifs tc) (he : ∀ s H ex C, PE (cxC X sc N s H ex C) elt te)
    (hsw : swapsWith (.ListComp elt [⟨tg, iter, ifs, 0⟩] sc pos) (some (.Name x pos')) spos.line X.env = pure true := by rfl)
    (hs : ∀ x, foldedSetIterable iter X.env x = pure x := by intro _; rfl) : PS X (.Assign [.Name x pos'] (.ListComp elt [⟨tg, iter, ifs, 0⟩] sc pos) spos) (tAsg (tComp wi g tc te idx N.length) (gName i)) := by
  intro pins s σ H D I h
  rw [exec_Assign_Name_used _ _ _ _ hsw]
  refine wpAny_bind (wpAny_standAt (wpAny_bind ?_))
  have hcl : closureFor sc X.env = pure (clOf X.env.cells sc.names []) := closure_of fun p hp e => I.ok.has p.1 (.inl (S.frees p hp e))
  show wpAny _ X.A (do let _ ← comprehension (.ListComp elt [⟨tg, iter, ifs, 0⟩] sc pos) sc X.env _ (newList []) false (eval iter X.env) (some (assign (.Name x pos') X.env))) _ _ s
  refine wpAny_bind (wpAny_mono (wpAny_comprehension_free (use := some (assign (.Name x pos') X.env)) (Q := fun _ s' => SP X pins D .next s') rfl hs hcl S.kind S.locs
    (thn (hi pins s σ H _ I h) fun v s1 h1 => thn h1 fun itv s2 h2 => ?_)) (fun _ s' q => wpAny_pure (wpAny_pure q)) fun _ _ q => q)
  obtain ⟨it, fp, tn, J, H2, e, I2, T, st2, f2, hW⟩ := h2
  subst e
  refine comp_run (RR := fun C acc => compPost (model X.prog X.w) X.A X.xe (some (assign (.Name x pos') X.env)) (fun _ s' => SP X pins D .next s') acc C) hc S gk hg ht he I2 T st2 f2 hW fun s' ys H' m its n kq I' hns hCn hAn rv ea => ?_
  have hC : (s2.heap.push nilObj).objs.size = s2.heap.objs.size + 1 := Heap.size_push _ _
  have fa : FpOk X pins H2 s2.heap.objs.size := I2.fpOk (Nat.le_refl _) (I2.hok.fresh (Nat.le_refl _))
  have fC : FpOk X pins H2 (s2.heap.push nilObj).objs.size := I2.fpOk (by rw [hC]; exact Nat.le_succ _) (I2.hok.fresh (by rw [hC]; exact Nat.le_succ _))
  have ya : X.s₀.heap.objs.size ≤ s2.heap.objs.size := I2.sz
  have I1 := Inv.adopt (o := .lst ys) I' hAn ya fa.2.1 fa.2.2.2.2.1 fa.2.2.2.2.2 ⟨kq.1, its, n, rv, ea⟩
  have hCn' : upd H' s2.heap.objs.size (.lst ys) (s2.heap.push nilObj).objs.size = none := by
    rw [upd_ne (by rw [hC]; exact Nat.succ_ne_self _)]
    exact hCn
  show wpAny (model X.prog X.w) X.A (assign (.Name x pos') X.env (.ref s2.heap.objs.size)) _ X.xe s'
  refine wpAny_assign_Name (store_ok2 (v := .ref s2.heap.objs.size) I1 hN hx (.inl hl) rfl (fun s3 I3 ⟨a, sb, ha⟩ => ?_) (.inr hl))
  have aC : (s2.heap.push nilObj).objs.size ≠ a := by
    rcases ha with e | e
    · rw [e]; exact fC.2.1
    · exact Ne.symm (fC.2.2.2.2.1 x a e)
  refine ⟨m, hns.sameBut sb aC, fun h' sb' => ⟨_, _, I3.turned (h' := h') (t' := s3.toks) (it := (s2.heap.push nilObj).objs.size) (fun b o hb e => (sb'.2 b hb).trans e) hCn' fC.2.1 (.inr (by rw [hC]; exact Nat.le_succ_of_le ya)) fC.2.2.2.2.1 fC.2.2.2.2.2, kq.2 _ hAn⟩⟩
end
end L2

namespace L2
open PySem PySem.Spec PyProof.Rows L3

/-! ### several records turned at once -/
theorem Inv.turnedL {X : Cx} {pins : List (Addr × Obj)} {σ : St} {H : Hp} {s : Shared} {h' : Heap} {t' : Nat} {ch : List Addr} (I : Inv X pins σ H s) (k : ∀ b o, b ∉ ch → s.heap.get? b = some o → h'.get? b = some o)
    (hc : ∀ b ∈ ch, FpOk X pins H b) : Inv X pins σ H { s with heap := h', toks := t' } := by
  have nch : ∀ b u, H b = some u → b ∉ ch := fun b u e z => by rw [(hc b z).1] at e; cases e
  refine I.step (g' := s.gens) (d' := s.drawn) (ch := ch) (fun b hb => ⟨(hc b hb).2.2.2.1, (hc b hb).2.1, (hc b hb).2.2.2.2.1, (hc b hb).2.2.2.2.2⟩) (fun b o _ _ z e _ => k b o z e) (fun b o _ _ z e _ => ⟨o.slots, k b o z e⟩) (fun _ _ _ _ n => n)
    (fun b o z e => ⟨o, k b o z e⟩) (fun _ _ e => e) (fun _ _ _ e => e) (fun b ps e => ⟨#[], by rw [e]; simp⟩) (fun m hm => ?_) (fun b u e => ?_) I.bare
  · obtain ⟨o, es, ep, ho, r⟩ := hm
    exact ⟨o, es, ep, k _ o (fun z => (hc _ z).2.1 rfl) ho, r⟩
  · refine (I.hok b u e).stay (fun c v hq q => k c v ?_ q) (fun _ q => q) fun _ _ q => q
    rcases hq with z | z
    · rw [z]; exact nch b u e
    · exact nch c _ z

/-! ### a list or a tuple, by one word -/
def Sq (b : Bool) (K : PySem.W.Frag) (H : Hp) (a : Addr) (xs : List V) : Prop := if b = true then SqL K H a xs else SqT K H a xs
theorem sq_is {X : Cx} {pins : List (Addr × Obj)} {σ : St} {H : Hp} {s : Shared} {b : Bool} {a : Addr} {xs : List V} (I : Inv X pins σ H s) (h : Sq b X.K H a xs) : ∃ its : List Value, Vals xs its ∧ SeqIs b s.heap a its.toArray ∧ xs.length ≤ sizeLine := by
  cases b with
  | true =>
    obtain ⟨its, r, p, z⟩ := I.list h
    exact ⟨its, r, p.isList, z⟩
  | false =>
    obtain ⟨its, r, p, z⟩ := I.tuple h
    exact ⟨its, r, p, z⟩
theorem sq_inj {X : Cx} {pins : List (Addr × Obj)} {σ : St} {H : Hp} {s : Shared} {b : Bool} {a : Addr} {xs ys : List V} (I : Inv X pins σ H s) (h : Sq b X.K H a xs) (h' : Sq b X.K H a ys) : xs = ys := by
  cases b with
  | true => exact I.list_inj h h'
  | false => exact I.tuple_inj h h'
theorem sq_lt {X : Cx} {pins : List (Addr × Obj)} {σ : St} {H : Hp} {s : Shared} {b : Bool} {a : Addr} {xs : List V} (I : Inv X pins σ H s) (h : Sq b X.K H a xs) : a < s.heap.objs.size := by
  obtain ⟨its, r, p, z⟩ := sq_is I h
  cases b with
  | true => obtain ⟨o, e, _⟩ := (show s.heap.IsList a its.toArray from p); exact Heap.lt_size e
  | false => obtain ⟨o, e, _⟩ := (show s.heap.IsTuple a its.toArray from p); exact Heap.lt_size e

/-! ### zip of two of them, walked into a pair of names -/
def Itz (b1 b2 : Bool) (K : PySem.W.Frag) (l1 l2 : Addr) : It :=
  ⟨fun i H => ∃ xs ys x y, Sq b1 K H l1 xs ∧ Sq b2 K H l2 ys ∧ xs[i]? = some x ∧ ys[i]? = some y,
   fun i H v H' => ∃ p x y, H p = none ∧ v = .ref p ∧ H' = upd H p (.tup [x, y]) ∧ ∀ xs ys, Sq b1 K H l1 xs → Sq b2 K H l2 ys → xs[i]? = some x ∧ ys[i]? = some y,
   fun i H => ∃ xs ys, Sq b1 K H l1 xs ∧ Sq b2 K H l2 ys ∧ (xs.length ≤ i ∨ ys.length ≤ i)⟩
theorem seqIt_data {b : Bool} {h : Heap} {it l : Addr} {i : Nat} (x : SeqIt b h it l i) : ∃ o, h.get? it = some o ∧ ∀ v, o.data ≠ .cell v := by
  obtain ⟨o, vs, e, d⟩ := x.obj
  exact ⟨o, e, fun v z => by rw [d] at z; cases z⟩
theorem turn_zip {P : Program} {w : World} {K : PySem.W.Frag} {es : List Expr} {x1 : Nat} {pos : Pos} {b1 b2 : Bool} {z TI TO i1 i2 l1 l2 : Addr} (D : ZipApart z TI TO i1 i2 l1 l2) :
    Turn P w K (.Tuple es x1 pos) (Itz b1 b2 K l1 l2) [z, TI, TO, i1, i2] z (fun i h => IsZip h z TI TO .none ∧ IsPair h TI (.ref i1) (.ref i2) ∧ (∃ a b, IsPair h TO a b) ∧ SeqIt b1 h i1 l1 i ∧ SeqIt b2 h i2 l2 i) where
  mem := by simp
  obj := fun i h ⟨a1, a2, ⟨a, b, a3⟩, a4, a5⟩ c hc => by
    simp only [List.mem_cons, List.mem_nil_iff, or_false] at hc
    rcases hc with rfl | rfl | rfl | rfl | rfl
    · exact ⟨_, a1, fun v z => by cases z⟩
    · exact ⟨_, a2, fun v z => by cases z⟩
    · exact ⟨_, a3, fun v z => by cases z⟩
    · exact seqIt_data a4
    · exact seqIt_data a5
  keep := fun i h h' ⟨a1, a2, ⟨a, b, a3⟩, a4, a5⟩ k => ⟨k z (by simp) _ a1, k TI (by simp) _ a2, ⟨a, b, k TO (by simp) _ a3⟩, a4.at fun o e => k i1 (by simp) o e, a5.at fun o e => k i2 (by simp) o e⟩
  item := by
    intro X hP hw hK hc i pins s σ H E I hf ⟨a1, a2, ⟨a, b, a3⟩, a4, a5⟩ hg
    subst hP hw hK
    obtain ⟨xs, ys, x, y, q1, q2, hx, hy⟩ := hg
    obtain ⟨vs1, r1, m1, _⟩ := sq_is I q1
    obtain ⟨vs2, r2, m2, _⟩ := sq_is I q2
    obtain ⟨u, hu, ru⟩ := r1.get hx
    obtain ⟨v, hv, rv⟩ := r2.get hy
    refine zip_item D a1 a2 a3 a4 a5 m1 m2 (x := u) (y := v) (by simpa using hu) (by simpa using hv) fun h' c1 c2 c3 c4 c5 kk => ?_
    have hp : H s.heap.objs.size = none := I.hok.fresh (Nat.le_refl _)
    have lts : ∀ c ∈ [z, TI, TO, i1, i2], c < s.heap.objs.size := fun c hc => by
      simp only [List.mem_cons, List.mem_nil_iff, or_false] at hc
      rcases hc with rfl | rfl | rfl | rfl | rfl
      · exact Heap.lt_size a1
      · exact Heap.lt_size a2
      · exact Heap.lt_size a3
      · obtain ⟨o, e, _⟩ := seqIt_data a4; exact Heap.lt_size e
      · obtain ⟨o, e, _⟩ := seqIt_data a5; exact Heap.lt_size e
    refine ⟨_, rfl, wpAny_letOwnedTupleGo_zip c1 fun h'' d1 sb => ?_⟩
    have sz : ∀ c ∈ [z, TI, TO, i1, i2], c ≠ s.heap.objs.size := fun c hc => Nat.ne_of_lt (lts c hc)
    have k2 : ∀ c o, c ∉ [z, TO, i1, i2] → s.heap.get? c = some o → h''.get? c = some o := fun c o hc e => by
      simp only [List.mem_cons, List.mem_nil_iff, or_false, not_or] at hc
      exact (sb.2 c hc.1).trans (kk c o hc.1 hc.2.1 hc.2.2.1 hc.2.2.2 e)
    have fz : ∀ c ∈ [z, TO, i1, i2], FpOk X pins H c := fun c hc => hf c (by
      simp only [List.mem_cons, List.mem_nil_iff, or_false] at hc ⊢
      rcases hc with rfl | rfl | rfl | rfl <;> simp)
    have I1 : Inv X pins σ H { s with heap := h'' } := Inv.turnedL (t' := s.toks) I k2 fz
    have pT : IsPair h'' s.heap.objs.size u v := (sb.2 _ (Ne.symm (sz z (by simp)))).trans c5
    have fT : FpOk X pins H s.heap.objs.size := I.fpOk (Nat.le_refl _) hp
    have I2 : Inv X pins σ (upd H s.heap.objs.size (.tup [x, y])) { s with heap := h'' } := Inv.adopt I1 hp I.sz fT.2.1 fT.2.2.2.2.1 fT.2.2.2.2.2 ⟨by show 2 ≤ sizeLine; decide, [u, v], .cons ru (.cons rv .nil), ⟨_, pT, rfl, _, rfl⟩⟩
    refine ⟨.ref s.heap.objs.size, _, I2, rfl, ⟨_, x, y, hp, rfl, rfl, fun xs' ys' p1 p2 => ⟨by rw [sq_inj I p1 q1]; exact hx, by rw [sq_inj I p2 q2]; exact hy⟩⟩, ⟨d1, (sb.2 _ D.TIz).trans (kk _ _ D.TIz D.TITO D.TIi1 D.TIi2 a2), ⟨u, v, (sb.2 _ D.TOz).trans c2⟩,
      c3.at fun o e => (sb.2 _ D.i1z).trans e, c4.at fun o e => (sb.2 _ D.i2z).trans e⟩, fun c hc => ?_⟩
    rw [upd_ne (sz c hc)]
    exact (hf c hc).1
  done := by
    intro X hP hw hK hc i pins s σ H E I hf ⟨a1, a2, ⟨a, b, a3⟩, a4, a5⟩ hg
    subst hP hw hK
    obtain ⟨xs, ys, q1, q2, hend⟩ := hg
    obtain ⟨vs1, r1, m1, _⟩ := sq_is I q1
    obtain ⟨vs2, r2, m2, _⟩ := sq_is I q2
    have l1' := r1.length
    have l2' := r2.length
    refine zip_end (I.ok.hd hc) D a1 a2 a3 a4 a5 m1 m2 (by rcases hend with q | q; exact .inl (by simp; omega); exact .inr (by simp; omega)) fun h' kk => ⟨rfl, ?_⟩
    refine Inv.turnedL (t' := s.toks) (ch := [z, TO, i1, i2]) I (fun c o hc e => ?_) fun c hc => hf c (by
      simp only [List.mem_cons, List.mem_nil_iff, or_false] at hc ⊢
      rcases hc with rfl | rfl | rfl | rfl <;> simp)
    simp only [List.mem_cons, List.mem_nil_iff, or_false, not_or] at hc
    exact kk c o hc.1 hc.2.1 hc.2.2.1 hc.2.2.2 e
  self := fun _ _ _ _ _ st h => wpAny_pyIter_zip st.1 h
section
variable {X : Cx} {pos : Pos}
/-- the two sources of zip(a, b), evaluated -/
def iZip (b1 b2 : Bool) (K : PySem.W.Frag) (ta : TA) : TI := fun σ H R => ta σ H fun vs H1 => ∃ l1 l2 xs ys, vs = [.ref l1, .ref l2] ∧ Sq b1 K H1 l1 xs ∧ Sq b2 K H1 l2 ys ∧ R (Itz b1 b2 K l1 l2) H1
theorem pi_zip {b1 b2 : Bool} {a b : Expr} {ta : TA} {p : Pos} {es : List Expr} {x1 : Nat} {tpos : Pos} (hg : Gl X "zip") (hm : X.mg "zip" = none) (ha : PA X [a, b] ta)
    (hs : starEach [a, b] X.env = [(false, eval a X.env), (false, eval b X.env)] := by rfl) (hs2 : starEach [b] X.env = [(false, eval b X.env)] := by rfl) : PI X (.Tuple es x1 tpos) (.Call (.Name "zip" p) [a, b] [] pos) (iZip b1 b2 X.K ta) := by
  intro pins s σ H R I h
  refine Call_ (ld_blt I hg hm boot_zip (PyProof.Rows.callWith_type1 (thn (ha pos pins s σ H _ I h) fun us s1 ⟨vs, H1, I1, r1, q1⟩ => ?_) (by rw [hs, hs2]) (by rw [hs2]; rfl)))
  obtain ⟨l1, l2, xs, ys, e, q1, q2, q⟩ := q1
  subst e
  cases r1 with
  | cons r rr =>
    cases rr with
    | cons r' rr =>
      cases rr
      cases r
      cases r'
      obtain ⟨vs1, _, m1, _⟩ := sq_is I1 q1
      obtain ⟨vs2, _, m2, _⟩ := sq_is I1 q2
      have n1 := sq_lt I1 q1
      have n2 := sq_lt I1 q2
      refine zip_call m1 m2 fun h' c1 c2 c3 c4 c5 kk => wpAny_pyIter_zip c1 ?_
      refine ⟨_, _, _, _, H1, rfl, I1.kept (t' := s1.toks) kk, turn_zip (D := zipApart_new n1 n2), ⟨c1, c2, ⟨_, _, c3⟩, c4, c5⟩, fun c hc => ?_, q⟩
      have hc' : s1.heap.objs.size ≤ c := by
        simp only [List.mem_cons, List.mem_nil_iff, or_false] at hc
        rcases hc with rfl | rfl | rfl | rfl | rfl <;> omega
      exact I1.fpOk hc' (I1.hok.fresh hc')

/-! ### enumerate, walked into a pair of names -/
def Ite (b : Bool) (K : PySem.W.Frag) (l : Addr) : It :=
  ⟨fun i H => ∃ xs x, Sq b K H l xs ∧ xs[i]? = some x,
   fun i H v H' => ∃ p x, H p = none ∧ v = .ref p ∧ H' = upd H p (.tup [.int i, x]) ∧ ∀ xs, Sq b K H l xs → xs[i]? = some x,
   fun i H => ∃ xs, Sq b K H l xs ∧ xs.length ≤ i⟩
end
theorem turn_enum {P : Program} {w : World} {K : PySem.W.Frag} {es : List Expr} {x1 : Nat} {pos : Pos} {b : Bool} {e it l : Addr} (n1 : e ≠ it) (n2 : l ≠ it) (n3 : e ≠ l) :
    Turn P w K (.Tuple es x1 pos) (Ite b K l) [e, it] e (fun i h => (∃ old, IsEnum h e it i old) ∧ SeqIt b h it l i) where
  mem := by simp
  obj := fun i h ⟨⟨old, a1⟩, a2⟩ c hc => by
    simp only [List.mem_cons, List.mem_nil_iff, or_false] at hc
    rcases hc with rfl | rfl
    · exact ⟨_, a1, fun v z => by cases z⟩
    · exact seqIt_data a2
  keep := fun i h h' ⟨⟨old, a1⟩, a2⟩ k => ⟨⟨old, k e (by simp) _ a1⟩, a2.at fun o q => k it (by simp) o q⟩
  item := by
    intro X hP hw hK hc i pins s σ H E I hf ⟨⟨old, a1⟩, a2⟩ hg
    subst hP hw hK
    obtain ⟨xs, x, q1, hx⟩ := hg
    obtain ⟨vs, r1, m1, _⟩ := sq_is I q1
    obtain ⟨u, hu, ru⟩ := r1.get hx
    have hil : i < vs.toArray.size := by
      have := (List.getElem?_eq_some_iff.mp hu).1
      simpa using this
    have hh : X.A.in1.handled = none := I.ok.hd hc
    refine wpAny_pyNext_enum_itemD (n := vs.toArray.size) (draws_seq (b := b) hh it l n2 vs.toArray) a1 ⟨a2, m1⟩ hil n1 (by simp; exact ⟨n1, n3⟩) fun y h' tk hy c1 c2 c3 c4 kk => ?_
    have ey : y = u := by
      have : vs[i]? = some y := by simpa using hy
      rw [hu] at this
      exact (Option.some.inj this).symm
    subst ey
    have hp : H s.heap.objs.size = none := I.hok.fresh (Nat.le_refl _)
    have eS : e ≠ s.heap.objs.size := Nat.ne_of_lt (Heap.lt_size a1)
    have iS : it ≠ s.heap.objs.size := by
      obtain ⟨o, q, _⟩ := seqIt_data a2
      exact Nat.ne_of_lt (Heap.lt_size q)
    refine ⟨_, rfl, wpAny_letOwnedTupleGo_enum c1 fun h'' d1 sb => ?_⟩
    have k2 : ∀ c o, c ∉ [e, it] → s.heap.get? c = some o → h''.get? c = some o := fun c o hc q => by
      simp only [List.mem_cons, List.mem_nil_iff, or_false, not_or] at hc
      exact (sb.2 c hc.1).trans (kk c o hc.1 hc.2 q)
    have I1 : Inv X pins σ H { s with heap := h'', toks := tk + 1 } := Inv.turnedL I k2 hf
    have pT : h''.get? s.heap.objs.size = some { cls := .type "tuple", data := .seq #[.int i tk, y] } := (sb.2 _ (Ne.symm eS)).trans c3
    have fT : FpOk X pins H s.heap.objs.size := I.fpOk (Nat.le_refl _) hp
    have I2 : Inv X pins σ (upd H s.heap.objs.size (.tup [.int i, x])) { s with heap := h'', toks := tk + 1 } := Inv.adopt I1 hp I.sz fT.2.1 fT.2.2.2.2.1 fT.2.2.2.2.2
      ⟨by show 2 ≤ sizeLine; decide, [.int i tk, y], .cons ⟨_, rfl⟩ (.cons ru .nil), ⟨_, pT, rfl, _, rfl⟩⟩
    refine ⟨.ref s.heap.objs.size, _, I2, rfl, ⟨_, x, hp, rfl, rfl, fun xs' p1 => by rw [sq_inj I p1 q1]; exact hx⟩, ⟨⟨_, by simpa using d1⟩, c2.1.at fun o q => (sb.2 _ (Ne.symm n1)).trans q⟩, fun c hc => ?_⟩
    simp only [List.mem_cons, List.mem_nil_iff, or_false] at hc
    rcases hc with rfl | rfl
    · rw [upd_ne eS]; exact (hf _ (by simp)).1
    · rw [upd_ne iS]; exact (hf _ (by simp)).1
  done := by
    intro X hP hw hK hc i pins s σ H E I hf ⟨⟨old, a1⟩, a2⟩ hg
    subst hP hw hK
    obtain ⟨xs, q1, hend⟩ := hg
    obtain ⟨vs, r1, m1, _⟩ := sq_is I q1
    have hl := r1.length
    have hT : s.TypeIs (.ref e) "enumerate" := ⟨_, a1, rfl⟩
    unfold pyNext
    refine wpAny_bind (wpAny_attempt (wpAny_callSpecial?_slot (name := Str.ofString "__next__") hT F.slot_enumerate_next (wpAny_call_entry F.slot_enumerate_next hT F.entry_enumerate_next ?_ (F.args_enumerate_next_1 _))))
    show wpAny _ _ (field (.ref e) 2 >>= _) _ _ s
    refine wpAny_bind (wpAny_field a1 rfl (x := .ref it) rfl (wpAny_bind (next_end (show X.A.in1.handled = none from I.ok.hd hc) a2 m1 (by simp; omega) fun h' y hk ⟨o, ho, hoc⟩ => ?_)))
    refine wpAny_bind (wpAny_isInstance (T := "StopIteration") (b := true) ⟨o, ho, hoc⟩ isSubtype_stop (wpAny_pure ⟨rfl, ?_⟩))
    refine I.turned (t' := s.toks) (it := it) (fun c q hc z => hk c q hc z) (hf it (by simp)).1 (hf it (by simp)).2.1 (hf it (by simp)).2.2.2.1 (hf it (by simp)).2.2.2.2.1 (hf it (by simp)).2.2.2.2.2
  self := fun _ _ _ _ _ st h => let ⟨_, a1⟩ := st.1; wpAny_pyIter_enum a1 h
section
variable {X : Cx} {pos : Pos}
def iEnum (b : Bool) (K : PySem.W.Frag) (ta : TA) : TI := fun σ H R => ta σ H fun vs H1 => ∃ l xs, vs = [.ref l] ∧ Sq b K H1 l xs ∧ R (Ite b K l) H1
theorem pi_enum {b : Bool} {a : Expr} {ta : TA} {p : Pos} {es : List Expr} {x1 : Nat} {tpos : Pos} (hg : Gl X "enumerate") (hm : X.mg "enumerate" = none) (ha : PA X [a] ta)
    (hs : starEach [a] X.env = [(false, eval a X.env)] := by rfl) : PI X (.Tuple es x1 tpos) (.Call (.Name "enumerate" p) [a] [] pos) (iEnum b X.K ta) := by
  intro pins s σ H R I h
  refine Call_ (ld_blt I hg hm boot_enumerate (PyProof.Rows.callWith_type1 (thn (ha pos pins s σ H _ I h) fun us s1 ⟨vs, H1, I1, r1, q1⟩ => ?_) hs rfl))
  obtain ⟨l, xs, e, q1, q⟩ := q1
  subst e
  cases r1 with
  | cons r rr =>
    cases rr
    cases r
    obtain ⟨vs1, _, m1, _⟩ := sq_is I1 q1
    have n1 := sq_lt I1 q1
    refine enum_call m1 fun h' c1 c2 kk => wpAny_pyIter_enum c1 ?_
    refine ⟨_, _, _, _, H1, rfl, I1.kept (t' := s1.toks) kk, turn_enum (Nat.succ_ne_self _) (Nat.ne_of_lt n1) (Ne.symm (Nat.ne_of_lt (Nat.lt_succ_of_lt n1))), ⟨⟨_, c1⟩, c2⟩, fun c hc => ?_, q⟩
    have hc' : s1.heap.objs.size ≤ c := by
      simp only [List.mem_cons, List.mem_nil_iff, or_false] at hc
      rcases hc with rfl | rfl <;> omega
    exact I1.fpOk hc' (I1.hok.fresh hc')
end
end L2

namespace L2
open PySem PySem.Spec PyProof.Rows PySem.SeqAt L3

/-! ### isinstance -/
/-- a class as a value -/
def clsV : V → Option Value
  | .ty n => some (.type n)
  | .ref a => some (.ref a)
  | _ => none
theorem clsV_rel {c : V} {cv u : Value} (h : clsV c = some cv) (r : RelV c u) : u = cv := by
  cases c with
  | ty n => cases h; exact r
  | ref a => cases h; exact r
  | _ => cases h
def rIsi (K : PySem.W.Frag) : List V → Hp → VK → Prop := fun xs H Q => ∃ x c t cv b, xs = [x, c] ∧ TyOf K H x t ∧ clsV c = some cv ∧ PySem.W.kitOne K t cv = some b ∧ Q (.bl b) H
section
variable {X : Cx}
theorem call_isi : CallR X (.builtin "isinstance") (rIsi X.K) := by
  intro pins s σ H xs us Q I r h
  obtain ⟨x, c, t, cv, b, e, ty, hc, hk, q⟩ := h
  subst e
  cases r with
  | cons r1 r2 =>
    cases r2 with
    | cons r2 r3 =>
      cases r3
      cases clsV_rel hc r2
      exact isinst_ok I r1 ty hk fun tk => ⟨.bl b, H, I.tok tk, rfl, q⟩

/-! ### all, any of a list of truths -/
theorem range_all (bs : List Bool) : (List.range bs.length).all (fun i => bs.getD i false) = bs.all id := by
  induction bs with
  | nil => rfl
  | cons b r ih =>
    rw [List.length_cons, List.range_succ_eq_map, List.all_cons, List.all_map, List.all_cons]
    simp only [List.getD_cons_zero, id]
    congr 1
theorem range_any (bs : List Bool) : (List.range bs.length).any (fun i => bs.getD i false) = bs.any id := by
  induction bs with
  | nil => rfl
  | cons b r ih =>
    rw [List.length_cons, List.range_succ_eq_map, List.any_cons, List.any_map, List.any_cons]
    simp only [List.getD_cons_zero, id]
    congr 1
theorem bools_are : ∀ {bs : List Bool} {us : List Value}, Vals (bs.map V.bl) us → us = bs.map Value.bool
  | [], _, r => by cases r; rfl
  | b :: bs, _, r => by
    cases r with
    | cons r1 r2 =>
      cases r1
      rw [List.map_cons, bools_are r2]
theorem truth_bools {A : Around} (bs : List Bool) : TruthOf X.prog X.w A (fun i v => (bs.map Value.bool).toArray[i]? = some v) (fun i => bs.getD i false) := by
  intro i v s Q E h q
  have h' : (bs.map Value.bool)[i]? = some v := by simpa using h
  rw [List.getElem?_map] at h'
  cases e : bs[i]? with
  | none => rw [e] at h'; cases h'
  | some b =>
    rw [e] at h'
    have hv : v = .bool b := (Option.some.inj h').symm
    subst hv
    have hq : bs.getD i false = b := by rw [List.getD_eq_getElem?_getD, e]; rfl
    have q' : Q (bs.getD i false) s := q
    rw [hq] at q'
    exact wpAny_truthy_bool q'
def rAll (K : PySem.W.Frag) : List V → Hp → VK → Prop := fun xs H Q => ∃ (p : Addr) (bs : List Bool), xs = [.ref p] ∧ SqL K H p (bs.map V.bl) ∧ Q (.bl (bs.all id)) H
def rAny (K : PySem.W.Frag) : List V → Hp → VK → Prop := fun xs H Q => ∃ (p : Addr) (bs : List Bool), xs = [.ref p] ∧ SqL K H p (bs.map V.bl) ∧ Q (.bl (bs.any id)) H
theorem call_all (hc : X.calm = true) : CallR X (.builtin "all") (rAll X.K) := by
  intro pins s σ H xs us Q I r h
  obtain ⟨p, bs, e, hq, q⟩ := h
  subst e
  obtain ⟨u, rfl, rx⟩ := vals1 r
  cases rx
  obtain ⟨its, rv, pl, hz⟩ := I.list hq
  have ei := bools_are rv
  subst ei
  have hne : p ≠ s.heap.objs.size := by
    obtain ⟨o, e, _⟩ := pl.isList
    exact Nat.ne_of_lt (Heap.lt_size e)
  refine call_all_walk (wpAny_pyIter_list pl.isList ⟨_, _, _, _, _, _, _, rfl, Walks.list (show X.A.in1.handled = none from I.ok.hd hc) _ p hne (bs.map Value.bool).toArray, ⟨⟨_, Heap.get?_push_size _ rfl, rfl, rfl⟩, pl.isList.push _⟩, truth_bools bs, fun h' tk kk => ?_⟩)
  have e2 : (List.range (bs.map Value.bool).toArray.size).all (fun i => bs.getD i false) = bs.all id := by
    rw [List.size_toArray, List.length_map]
    exact range_all bs
  rw [e2]
  refine ⟨.bl _, H, I.kept fun b o e => kk b o (fun z => ?_) (Heap.get?_push_of_some _ e), rfl, q⟩
  have z' : b = s.heap.objs.size := by simpa using z
  rw [z'] at e
  exact absurd (Heap.lt_size e) (Nat.lt_irrefl _)
theorem call_any (hc : X.calm = true) : CallR X (.builtin "any") (rAny X.K) := by
  intro pins s σ H xs us Q I r h
  obtain ⟨p, bs, e, hq, q⟩ := h
  subst e
  obtain ⟨u, rfl, rx⟩ := vals1 r
  cases rx
  obtain ⟨its, rv, pl, hz⟩ := I.list hq
  have ei := bools_are rv
  subst ei
  have hne : p ≠ s.heap.objs.size := by
    obtain ⟨o, e, _⟩ := pl.isList
    exact Nat.ne_of_lt (Heap.lt_size e)
  refine call_any_walk (wpAny_pyIter_list pl.isList ⟨_, _, _, _, _, _, _, rfl, Walks.list (show X.A.in1.handled = none from I.ok.hd hc) _ p hne (bs.map Value.bool).toArray, ⟨⟨_, Heap.get?_push_size _ rfl, rfl, rfl⟩, pl.isList.push _⟩, truth_bools bs, fun h' tk kk => ?_⟩)
  have e2 : (List.range (bs.map Value.bool).toArray.size).any (fun i => bs.getD i false) = bs.any id := by
    rw [List.size_toArray, List.length_map]
    exact range_any bs
  rw [e2]
  refine ⟨.bl _, H, I.kept fun b o e => kk b o (fun z => ?_) (Heap.get?_push_of_some _ e), rfl, q⟩
  have z' : b = s.heap.objs.size := by simpa using z
  rw [z'] at e
  exact absurd (Heap.lt_size e) (Nat.lt_irrefl _)

/-! ### data compared, to any depth -/
mutual
inductive DatV (K : PySem.W.Frag) (H : Hp) : V → PyData → Prop
  | non : DatV K H .non .none
  | bl (b : Bool) : DatV K H (.bl b) (.bool b)
  | int (i : Int) : DatV K H (.int i) (.int i)
  | str (x : Str) : DatV K H (.str x) (.str x)
  | lst {a : Addr} {xs : List V} {ds : List PyData} : SqL K H a xs → DatVs K H xs ds → DatV K H (.ref a) (.list ds)
  | tup {a : Addr} {xs : List V} {ds : List PyData} : SqT K H a xs → DatVs K H xs ds → DatV K H (.ref a) (.tuple ds)
inductive DatVs (K : PySem.W.Frag) (H : Hp) : List V → List PyData → Prop
  | nil : DatVs K H [] []
  | cons {x : V} {d : PyData} {xs : List V} {ds : List PyData} : DatV K H x d → DatVs K H xs ds → DatVs K H (x :: xs) (d :: ds)
end
variable {pins : List (Addr × Obj)} {σ : St} {H : Hp} {s : Shared}
mutual
theorem DatV.reads (I : Inv X pins σ H s) : ∀ {v : V} {d : PyData} {u : Value}, DatV X.K H v d → RelV v u → ∃ as, Reads s.heap u d as
  | _, _, _, .non, r => by cases r; exact ⟨_, .none⟩
  | _, _, _, .bl b, r => by cases r; exact ⟨_, .bool b⟩
  | _, _, _, .int i, r => by obtain ⟨t, e⟩ := r; subst e; exact ⟨_, .int i t⟩
  | _, _, _, .str x, r => by obtain ⟨t, e⟩ := r; subst e; exact ⟨_, .str x t⟩
  | _, _, _, .lst hq hs, r => by
    cases r
    obtain ⟨its, rv, pl, hz⟩ := I.list hq
    obtain ⟨as, h⟩ := DatVs.reads I hs rv
    obtain ⟨o, ho, hc, n, hd⟩ := pl.isList
    exact ⟨_, .list ho hc hd (by simpa using h)⟩
  | _, _, _, .tup hq hs, r => by
    cases r
    obtain ⟨its, rv, pl, hz⟩ := I.tuple hq
    obtain ⟨as, h⟩ := DatVs.reads I hs rv
    obtain ⟨o, ho, hc, n, hd⟩ := pl
    exact ⟨_, .tuple ho hc hd (by simpa using h)⟩
theorem DatVs.reads (I : Inv X pins σ H s) : ∀ {vs : List V} {ds : List PyData} {us : List Value}, DatVs X.K H vs ds → Vals vs us → ∃ as, ReadsAll s.heap us ds as
  | _, _, _, .nil, r => by cases r; exact ⟨_, .nil⟩
  | _, _, _, .cons h t, r => by
    cases r with
    | cons r1 r2 =>
      obtain ⟨as, q1⟩ := DatV.reads I h r1
      obtain ⟨bs, q2⟩ := DatVs.reads I t r2
      exact ⟨_, .cons q1 q2⟩
end
def rEqD (K : PySem.W.Frag) (neg : Bool) : R2 := fun x y H Q => ∃ d e, DatV K H x d ∧ DatV K H y e ∧ shaped d = true ∧ shaped e = true ∧ noMix d e = true ∧ Q (.bl (if neg = true then !same d e else same d e)) H
theorem op_eqD (hu : X.A.units + 64 < cLine) : OpR X (compareOp .Eq) (rEqD X.K false) := by
  intro pins s σ H x y v u Q I rx ry h
  obtain ⟨d, e, h1, h2, h3, h4, h5, q⟩ := h
  obtain ⟨as, q1⟩ := h1.reads I rx
  obtain ⟨bs, q2⟩ := h2.reads I ry
  exact eq_dataH_same q1 q2 h3 h4 hu h5 ⟨.bl _, H, I, rfl, q⟩
theorem op_neD (hu : X.A.units + 64 < cLine) : OpR X (compareOp .NotEq) (rEqD X.K true) := by
  intro pins s σ H x y v u Q I rx ry h
  obtain ⟨d, e, h1, h2, h3, h4, h5, q⟩ := h
  obtain ⟨as, q1⟩ := h1.reads I rx
  obtain ⟨bs, q2⟩ := h2.reads I ry
  exact ne_dataH_same q1 q2 h3 h4 hu h5 ⟨.bl _, H, I, rfl, q⟩
theorem datVs_ints {K : PySem.W.Frag} {H : Hp} : ∀ ns : List Int, DatVs K H (ns.map V.int) (ns.map PyData.int)
  | [] => .nil
  | n :: r => .cons (.int n) (datVs_ints r)
theorem dat_ints {K : PySem.W.Frag} {H : Hp} {a : Addr} {ns : List Int} (h : SqL K H a (ns.map V.int)) : DatV K H (.ref a) (.list (ns.map PyData.int)) := .lst h (datVs_ints ns)
end

/-! ### Base.m(self, ..): a def of a class, called through the class -/
structure ClsFn (K : PySem.W.Frag) (C : Addr) (m : Str) (f : Addr) : Prop where
  sp : PySem.W.specialIn K (.ref C) "__getattribute__" = some (some (.builtin "type.__getattribute__"))
  rd : PySem.W.readsIn K C (.type "type") = true
  fc : PySem.W.findCls K (.ref C) (.type "type") m = some (.val (.ref f))
  kp : PySem.W.keepIn K (.ref f) = true
section
variable {X : Cx} {CX : CXT} {k : Nat} {f C : Addr} {fd : FuncData} {ps : List Str} {sp : Sp} {dvs : List V} {ds : List Value} {E : XK} {x m : Str} {p pos apos : Pos} {e o : Expr} {es : List Expr} {ta : TE} {t : TA}
theorem pe_clsCall {pl : Sem Bool} (c : ClsFn X.K C m f) (F : FnOk X.prog X.w X.K X.mg X.base CX k f fd ps sp) (hr : Room k X.A) (hg : Gl X x) (hm : X.mg x = some (.ref C)) (hb : Binds X.K fd ps ds) (hd : Vals dvs ds) (hx : Passes CX X E) (ha : PA X (e :: es) t)
    (hdb : (x == ("__debug__" : Str)) = false := by decide) (hst : starEach (e :: es) X.env = (false, eval e X.env) :: starEach es X.env := by rfl) (hpl : (backTo pos (starEach es X.env)).any (·.1) = false := by rfl)
    (ht : eval (.Call (.Attribute (.Name x p) m apos) (e :: es) [] pos) X.env = (do
      let ov ← eval (.Name x p) X.env
      standAt apos.atName
      let (f, first) ← holding [ov] (getMethod ov m pl)
      callWith pos f first (backTo pos (starEach (e :: es) X.env)) (backToKw pos (keywordEach [] X.env))) := by rfl) :
    PE X (.Call (.Attribute (.Name x p) m apos) (e :: es) [] pos) (tCall sp dvs E t) := by
  intro pins s σ H Q I h
  refine PySem.W.methodCall_KW (pl := pl) (ld_glob I hg hm ?_ hdb) ht
  refine PySem.W.method_cls I.kIn c.sp (PySem.W.cls_value I.kIn c.rd c.fc rfl ?_)
  have I1 := I.tok (s.toks + 1)
  refine PySem.W.callWith_K (first := []) (h₀ := X.base) I.ok.mod.kin c.kp (thn (ha pos pins _ σ H _ I1 h) fun us s2 ⟨vs, H2, I2, r, q2⟩ => ⟨I2.kIn, ?_⟩) hst hpl
  exact run_fn F hr hb hd hx I2 r q2

/-- o.m(), whatever class o is of: the method is chosen by the object. (The reading names no context: a comprehension's element may stand so.) -/
def tMethD (P : Program) (w : World) (K : PySem.W.Frag) (mg : Str → Option Value) (base : Heap) (CX : CXT) (k : Nat) (m : Str) (E : XK) (ta : TE) : TE := fun σ H Q => ta σ H fun x H1 => ∃ a C dx fs f fd ps sp, x = .ref a ∧ H1 a = some (.ins C dx fs) ∧ fs.lookup m = none ∧ Cls K C ∧ Meth K C m f ∧
  FnOk P w K mg base CX k f fd ps sp ∧ Binds K fd ps [] ∧ sp [.ref a] H1 Q E
theorem pe_methD {P : Program} {w : World} {K : PySem.W.Frag} {mg : Str → Option Value} {base : Heap} {pl : Sem Bool} (he : PE X o ta) (hr : Room k X.A) (hx : Passes CX X E) (hP : X.prog = P := by rfl) (hw : X.w = w := by rfl) (hK : X.K = K := by rfl) (hmg : X.mg = mg := by rfl) (hbs : X.base = base := by rfl)
    (ht : eval (.Call (.Attribute o m apos) [] [] pos) X.env = (do
      let ov ← eval o X.env
      standAt apos.atName
      let (f, first) ← holding [ov] (getMethod ov m pl)
      callWith pos f first (backTo pos (starEach [] X.env)) (backToKw pos (keywordEach [] X.env))) := by rfl) :
    PE X (.Call (.Attribute o m apos) [] [] pos) (tMethD P w K mg base CX k m E ta) := by
  subst hP hw hK hmg hbs
  intro pins s σ H Q I h
  refine PySem.W.methodCall_KW (pl := pl) (thn (he pins s σ H _ I h) fun u s1 hh => ?_) ht
  obtain ⟨x, H1, I1, rx, a, C, dx, fs, f, fd, ps, sp, ex, ea, l, c, hm, F, hb, q⟩ := hh
  subst ex
  obtain rfl : u = Value.ref a := rx
  refine getmeth_ok I1 ea c hm l ?_
  exact PySem.W.callWith_K0 (first := [.ref a]) I1.kIn hm.kp (run_fn (us := [.ref a]) (vs := [.ref a]) (dvs := []) (ds := []) F hr hb .nil hx I1 (.cons rfl .nil) q)
end

/-! ### ifs -/
theorem iteD {c A B : Prop} [Decidable c] (h1 : c → A) (h2 : ¬ c → B) : if decide c = true then A else B := by
  by_cases h : c
  · rw [decide_eq_true h]; exact iteT (h1 h)
  · rw [decide_eq_false h]; exact iteF (h2 h)
theorem iteND {c A B : Prop} [Decidable c] (h1 : ¬ c → A) (h2 : c → B) : if (!decide c) = true then A else B := by
  by_cases h : c
  · rw [decide_eq_true h]; exact iteF (h2 h)
  · rw [decide_eq_false h]; exact iteT (h1 h)
theorem iteB {b : Bool} {A B : Prop} (h1 : b = true → A) (h2 : b = false → B) : if b = true then A else B := by
  cases b with
  | true => exact iteT (h1 rfl)
  | false => exact iteF (h2 rfl)
theorem iteNB {b : Bool} {A B : Prop} (h1 : b = false → A) (h2 : b = true → B) : if (!b) = true then A else B := by
  cases b with
  | true => exact iteF (h2 rfl)
  | false => exact iteT (h1 rfl)
/-! ### a block's scope, by looking -/
def scOk (sc out : Scope) (XN N : List Str) (idx : List Nat) : Bool :=
  decide (sc.kind = .function) && (sc.names.all (fun y => decide (y.2 ≠ .cell)) && (sc.names.all (fun y => decide (y.2 ≠ .local) || decide (sc.names.lookup y.1 = some .local)) &&
    (sc.names.all (fun y => decide (y.2 ≠ .free) || decide (out.names.lookup y.1 = some .cell)) && (decide (idx.length ≤ N.length) && (idx.zip N).all (fun p => decide (XN[p.1]? = some p.2) && decide (sc.names.lookup p.2 = some .free))))))
theorem ScC.of {X : Cx} {sc : Scope} {N : List Str} {idx : List Nat} (h : scOk sc X.env.scope X.N N idx = true) : ScC X sc N idx := by
  unfold scOk at h
  simp only [Bool.and_eq_true, decide_eq_true_eq, List.all_eq_true, Bool.or_eq_true] at h
  obtain ⟨h1, h2, h3, h4, h5, h6⟩ := h
  refine ⟨h1, h2, fun y hy e => ?_, fun y hy e => ?_, h5, fun k i x a b => ?_⟩
  · rcases h3 y hy with z | z
    · exact absurd e z
    · exact z
  · rcases h4 y hy with z | z
    · exact absurd e z
    · exact z
  · have hm : (i, x) ∈ idx.zip N := by
      have : (idx.zip N)[k]? = some (i, x) := by rw [List.getElem?_zip_eq_some]; exact ⟨a, b⟩
      exact List.mem_of_getElem? this
    exact h6 (i, x) hm
end L2

namespace TL
open PySem PySem.Spec PyProof.Rows L2 L3

/-! ### kinds -/
def kinds : List String := ["NoneType", "bool", "int", "str", "list", "tuple"]
def kinds2 : List String := ["int", "bool", "str", "tuple", "list"]
def isiB (T U : String) : Bool := T == U || (T == "bool" && U == "int")
theorem kit_eq (K : PySem.W.Frag) (T U : String) : PySem.W.kitOne K (.type T) (.type U) =
    (if (Value.type T == Value.type U) = true then some true else if PySem.W.kitMeta U = true then (fastBuiltinMro T).map (·.contains (.type U)) else none) := rfl
theorem kit_tab : ∀ T ∈ kinds, ∀ U ∈ kinds2, (if (Value.type T == Value.type U) = true then some true else if PySem.W.kitMeta U = true then (fastBuiltinMro T).map (·.contains (.type U)) else none) = some (isiB T U) := by decide +kernel
def tyName (H : Hp) : V → Option String
  | .non => some "NoneType"
  | .bl _ => some "bool"
  | .int _ => some "int"
  | .str _ => some "str"
  | .ref a => match H a with
    | some (.lst _) => some "list"
    | some (.tup _) => some "tuple"
    | _ => none
  | _ => none
theorem tyName_of {K : PySem.W.Frag} {H : Hp} {v : V} {T : String} (h : tyName H v = some T) : TyOf K H v (.type T) ∧ T ∈ kinds := by
  cases v with
  | non => cases h; exact ⟨.non, by decide⟩
  | bl b => cases h; exact ⟨.bl b, by decide⟩
  | int i => cases h; exact ⟨.int i, by decide⟩
  | str x => cases h; exact ⟨.str x, by decide⟩
  | ref a =>
    unfold tyName at h
    cases e : H a with
    | none => simp only [e] at h; cases h
    | some o =>
      cases o with
      | lst xs => simp only [e] at h; cases h; exact ⟨.lst e, by decide⟩
      | tup xs => simp only [e] at h; cases h; exact ⟨.tup e, by decide⟩
      | _ => simp only [e] at h; cases h
  | _ => cases h
theorem kitU {K : PySem.W.Frag} {H : Hp} {v : V} {T U : String} (h : tyName H v = some T) (hU : U ∈ kinds2) : PySem.W.kitOne K (.type T) (.type U) = some (isiB T U) := by
  rw [kit_eq]
  exact kit_tab T (tyName_of (K := K) h).2 U hU
theorem tyT {K : PySem.W.Frag} {H : Hp} {v : V} {T : String} (h : tyName H v = some T) : TyOf K H v (.type T) := (tyName_of h).1
theorem tyName_same {H H' : Hp} {v : V} {T : String} (s : Same H H') (h : tyName H v = some T) : tyName H' v = some T := by
  cases v with
  | ref a =>
    unfold tyName at h ⊢
    cases e : H a with
    | none => simp only [e] at h; cases h
    | some o => simp only [s a o e]; simp only [e] at h; exact h
  | _ => exact h
def isW : V → Bool
  | .int _ => true
  | _ => false
theorem isW_of {H : Hp} {v : V} {T : String} (h : tyName H v = some T) : (isiB T "int" && !isiB T "bool") = isW v := by
  cases v with
  | non => cases h; rfl
  | bl b => cases h; rfl
  | int i => cases h; rfl
  | str x => cases h; rfl
  | ref a =>
    unfold tyName at h
    cases e : H a with
    | none => simp only [e] at h; cases h
    | some o =>
      cases o with
      | lst xs => simp only [e] at h; cases h; rfl
      | tup xs => simp only [e] at h; cases h; rfl
      | _ => simp only [e] at h; cases h
  | _ => cases h

/-! ### steps -/
def boundsM (w : Str) : Option (List Int) :=
  if w = "put" then some [4, TOPi] else if w = "add" then some [4, 4] else if w = "set" then some [12, 4] else if w = "look" then some [4, 12] else if w = "swap" then some [4, 12]
  else if w = "clear" then some [] else if w = "skip" then some [4, 121] else none
def wIn : V → Int → Bool
  | .int i, b => decide (0 ≤ i) && decide (i < b)
  | _, _ => false
/-- is the tuple of these parts a step -/
def stepOk : List V → Bool
  | .str w :: ps => match boundsM w with
    | none => false
    | some bs => decide (ps.length = bs.length) && (ps.zip bs).all fun p => wIn p.1 p.2
  | _ => false
def viewT (H : Hp) : V → Option (List V)
  | .ref a => match H a with
    | some (.tup xs) => some xs
    | _ => none
  | _ => none
def isStep (H : Hp) (v : V) : Bool := match viewT H v with
  | some xs => stepOk xs
  | none => false
theorem viewT_ref {H : Hp} {v : V} {xs : List V} (h : viewT H v = some xs) : ∃ a, v = .ref a ∧ H a = some (.tup xs) := by
  cases v with
  | ref a =>
    refine ⟨a, rfl, ?_⟩
    unfold viewT at h
    cases e : H a with
    | none => simp only [e] at h; cases h
    | some o =>
      cases o with
      | tup ys => simp only [e] at h; cases h; rfl
      | _ => simp only [e] at h; cases h
  | _ => cases h
theorem viewT_of {H : Hp} {a : Addr} {xs : List V} (h : H a = some (.tup xs)) : viewT H (.ref a) = some xs := by
  unfold viewT; simp only [h]
theorem tyName_tup {H : Hp} {a : Addr} {xs : List V} (h : H a = some (.tup xs)) : tyName H (.ref a) = some "tuple" := by
  unfold tyName; simp only [h]
theorem noView {H : Hp} {v : V} {T : String} (h : tyName H v = some T) : isiB T "tuple" = (viewT H v).isSome := by
  cases v with
  | non => cases h; rfl
  | bl b => cases h; rfl
  | int i => cases h; rfl
  | str x => cases h; rfl
  | ref a =>
    unfold tyName at h
    unfold viewT
    cases e : H a with
    | none => simp only [e] at h; cases h
    | some o =>
      cases o with
      | lst xs => simp only [e] at h ⊢; cases h; rfl
      | tup xs => simp only [e] at h ⊢; cases h; rfl
      | _ => simp only [e] at h; cases h
  | _ => cases h
theorem isiStr {H : Hp} {v : V} {T : String} (h : tyName H v = some T) : isiB T "str" = true ↔ ∃ x, v = .str x := by
  cases v with
  | str x => cases h; exact ⟨fun _ => ⟨x, rfl⟩, fun _ => rfl⟩
  | non => cases h; exact ⟨fun z => (by cases z), fun ⟨_, z⟩ => (by cases z)⟩
  | bl b => cases h; exact ⟨fun z => (by cases z), fun ⟨_, z⟩ => (by cases z)⟩
  | int i => cases h; exact ⟨fun z => (by cases z), fun ⟨_, z⟩ => (by cases z)⟩
  | ref a =>
    refine ⟨fun z => ?_, fun ⟨_, z⟩ => by cases z⟩
    unfold tyName at h
    cases e : H a with
    | none => simp only [e] at h; cases h
    | some o =>
      cases o with
      | lst xs => simp only [e] at h; cases h; cases z
      | tup xs => simp only [e] at h; cases h; cases z
      | _ => simp only [e] at h; cases h
  | _ => cases h
/-- a heap with a new object -/
theorem same_new {H H' : Hp} {p : Addr} {o : HO} (s : Same H H') (h : H' p = none) : Same H (upd H' p o) := fun b u e => by
  rw [upd_ne (ne_of_none (s b u e) h)]
  exact s b u e
theorem same_tup {K : PySem.W.Frag} {H H' : Hp} {a : Addr} {xs : List V} (s : Same H H') (h : SqT K H a xs) : SqT K H' a xs := by
  rcases h with (h | ⟨o, h⟩) | h
  · exact .inl (.inl (s _ _ h))
  · exact .inl (.inr ⟨o, s _ _ h⟩)
  · exact .inr h
end TL

namespace L2
open PySem PySem.Spec PyProof.Rows L3

/-! ### an exception in flight -/
/-- the exception's record: class, own dict, newest traceback entry -/
def ExcO (h : Heap) (e : Addr) (cls : Value) (dd : Option Addr) (tb : Value) : Prop :=
  ∃ oe vs a0, h.get? e = some oe ∧ oe.cls = cls ∧ oe.dict = dd ∧ oe.data = .fields vs ∧ vs[0]? = some a0 ∧ vs[1]? = some tb
/-- a traceback entry at T, in flight from fl -/
def TbAt (h : Heap) (e T : Addr) (fl : Value) : Prop := T ≠ e ∧ ∃ oT ts, h.get? T = some oT ∧ oT.data = .fields ts ∧ ts[3]? = some fl
def Fly (h : Heap) (e : Addr) (cls : Value) (dd : Option Addr) (tb : Option Addr) : Prop :=
  ExcO h e cls dd (tb.elim .none Value.ref) ∧ ∀ T, tb = some T → TbAt h e T .none
def Held (h : Heap) (e : Addr) (cls : Value) (dd : Option Addr) (T : Addr) (fl : Value) : Prop := ExcO h e cls dd (.ref T) ∧ TbAt h e T fl
theorem ExcO.keep {h h' : Heap} {e : Addr} {cls tb : Value} {dd : Option Addr} (x : ExcO h e cls dd tb) (k : ∀ o, h.get? e = some o → h'.get? e = some o) : ExcO h' e cls dd tb :=
  let ⟨oe, vs, a0, q, r⟩ := x; ⟨oe, vs, a0, k _ q, r⟩
theorem TbAt.keep {h h' : Heap} {e T : Addr} {fl : Value} (x : TbAt h e T fl) (k : ∀ o, h.get? T = some o → h'.get? T = some o) : TbAt h' e T fl :=
  let ⟨n, oT, ts, q, r⟩ := x; ⟨n, oT, ts, k _ q, r⟩
theorem Fly.keep {h h' : Heap} {e : Addr} {cls : Value} {dd tb : Option Addr} (x : Fly h e cls dd tb) (k : ∀ b o, h.get? b = some o → h'.get? b = some o) : Fly h' e cls dd tb :=
  ⟨x.1.keep fun o => k _ o, fun T z => (x.2 T z).keep fun o => k _ o⟩
theorem dict_mapF (o : Obj) (f : Array Value → Array Value) : (o.mapFields f).dict = o.dict := by
  obtain ⟨c, d, dt, s⟩ := o
  cases dt <;> rfl

section
variable {M : Model} {A : Around} {E : Value → Shared → Prop} {s : Shared} {base : Heap} {env : Env} {outer : List Env} {L e : Addr} {cls : Value} {dd : Option Addr} {Q : Unit → Shared → Prop}
/-- a new entry is laid -/
theorem entry_core {head : Value} {had : Bool} {oe : Obj} {vs : Array Value} {a0 : Value} (hfr : A.frames = some (env :: outer)) (hl : s.heap.FunFrames base (env :: outer)) (hf : env.frame = some L) (q : s.heap.get? e = some oe) (hc : oe.cls = cls) (hdd : oe.dict = dd)
    (hd : oe.data = .fields vs) (h0 : vs[0]? = some a0) (hsz : 1 < vs.size)
    (k : ∀ h' T, (∀ b o, b ∉ frs (env :: outer) → b ≠ e → s.heap.get? b = some o → h'.get? b = some o) → (∀ b o, s.heap.get? b = some o → b ≠ e → ∃ sl, h'.get? b = some { o with slots := sl }) → s.heap.objs.size ≤ T →
      Held h' e cls dd T (rawInt L) → Q () { s with heap := h' }) :
    wpAny M A (do let a ← frameOf env; let pl ← entryPlaceOf L had; let b ← EntryCells.newEntry head a .none (rawInt L) .none pl; setField (.ref e) 1 b) Q E s := by
  have hne : e ∉ frs (env :: outer) := fun z => by
    obtain ⟨_, o, ho, nf⟩ := hl.mem z
    rw [q] at ho; cases ho; exact nf vs hd
  refine wpAny_bind (wpAny_frameOf_fun hfr hl hf fun h1 so => ?_)
  refine wpAny_bind (wpAny_entryPlaceOf fun pl hp => ?_)
  unfold EntryCells.newEntry newFields
  refine wpAny_bind (wpAny_newObj_type ?_ (hp.sizeOk5 _ _ _ _ _))
  have q1 : h1.get? e = some oe := (so.2.1 e hne).trans q
  generalize hz : ({ cls := .type "traceback", dict := none, data := .fields ([head, .ref L, .none, rawInt L, .none] ++ (if pl.isEmpty then List.replicate 6 Value.none else pl)).toArray } : Obj) = ot
  have q2 : (h1.push ot).get? e = some oe := Heap.get?_push_of_some _ q1
  refine wpAny_setField q2 hd hsz ?_
  have nT : h1.objs.size ≠ e := Nat.ne_of_gt (Heap.lt_size q1)
  have d3 := Obj.data_mapFields hd (·.setIfInBounds 1 (Value.ref h1.objs.size))
  have e3 := Heap.get?_update_self (Obj.mapFields (·.setIfInBounds 1 (Value.ref h1.objs.size))) q2 (Obj.isFreed_of_fields d3)
  have fr : ot.isFreed = false := by rw [← hz]; rfl
  have t3 : ((h1.push ot).update e (Obj.mapFields (·.setIfInBounds 1 (Value.ref h1.objs.size)))).get? h1.objs.size = some ot := by
    rw [Heap.get?_update_other _ _ (Ne.symm nT)]
    exact Heap.get?_push_size h1 fr
  have kp : ∀ b o, b ≠ e → h1.get? b = some o → ((h1.push ot).update e (Obj.mapFields (·.setIfInBounds 1 (Value.ref h1.objs.size)))).get? b = some o := fun b o n z => by
    rw [Heap.get?_update_other _ _ (Ne.symm n)]
    exact Heap.get?_push_of_some _ z
  refine k _ h1.objs.size (fun b o hb n z => kp b o n ((so.2.1 b hb).trans z)) (fun b o z n => ?_) (Nat.le_of_eq so.1.symm) ⟨⟨_, _, a0, e3, ?_, ?_, d3, ?_, ?_⟩, nT, ot, _, t3, by rw [← hz], ?_⟩
  · obtain ⟨sl, z1⟩ := so.2.2 b o z
    exact ⟨sl, kp b _ n z1⟩
  · rw [Obj.cls_mapFields]; exact hc
  · rw [dict_mapF]; exact hdd
  · rw [Array.getElem?_setIfInBounds_ne (by decide)]; exact h0
  · simp [hsz]
  · first | (simp; done) | (rcases hp with rfl | ⟨_, _, _, _, _, _, _, rfl⟩ <;> simp)
/-- the frame is noted -/
theorem note_core {tb : Option Addr} (hfr : A.frames = some (env :: outer)) (hl : s.heap.FunFrames base (env :: outer)) (hf : env.frame = some L) (x : Fly s.heap e cls dd tb)
    (k : ∀ h' T, (∀ b o, b ∉ frs (env :: outer) → b ≠ e → tb ≠ some b → s.heap.get? b = some o → h'.get? b = some o) → (∀ b o, s.heap.get? b = some o → b ≠ e → tb ≠ some b → ∃ sl, h'.get? b = some { o with slots := sl }) → s.heap.objs.size ≤ T →
      Held h' e cls dd T (rawInt L) → Q () { s with heap := h' }) : wpAny M A (noteFrame (.ref e) env) Q E s := by
  obtain ⟨⟨oe, vs, a0, q, hc, hdd, hd, h0, h1⟩, ht⟩ := x
  have hsz : 1 < vs.size := (Array.getElem?_eq_some_iff.mp h1).1
  unfold noteFrame
  simp only [hf]
  cases tb with
  | none =>
    refine wpAny_bind (wpAny_field q hd h1 ?_)
    rw [if_neg (by decide)]
    exact entry_core hfr hl hf q hc hdd hd h0 hsz fun h' T a b c d => k h' T (fun x o y z _ => a x o y z) (fun x o y z _ => b x o y z) c d
  | some T0 =>
    obtain ⟨nT, oT, ts, qT, dT, t3⟩ := ht T0 rfl
    refine wpAny_bind (wpAny_field q hd h1 ?_)
    show wpAny M A (if (Value.ref T0 != Value.none) = true then _ else _) Q E s
    rw [if_pos (by simp)]
    refine wpAny_bind (wpAny_field qT dT t3 ?_)
    rw [if_neg (show ¬ ((Value.none == rawInt L) = true) by simp [rawInt])]
    refine wpAny_bind (wpAny_setField qT dT (Array.getElem?_eq_some_iff.mp t3).1 ?_)
    have oth : ∀ b, b ≠ T0 → (s.heap.update T0 (Obj.mapFields (·.setIfInBounds 3 Value.none))).get? b = s.heap.get? b := fun b n => Heap.get?_update_other _ _ (Ne.symm n)
    refine entry_core (s := { s with heap := s.heap.update T0 (Obj.mapFields (·.setIfInBounds 3 Value.none)) }) hfr (hl.of_keeps fun b o z nf => ⟨o, (oth b fun w => ?_).trans z, rfl⟩) hf ((oth e (Ne.symm nT)).trans q) hc hdd hd h0 hsz fun h' T a b c d => ?_
    · rw [w, qT] at z; cases z; exact nf ts dT
    · refine k h' T (fun x o y z n w => a x o y z ((oth x fun v => n (by rw [v])).trans w)) (fun x o w z n => b x o ((oth x fun v => n (by rw [v])).trans w) z) ?_ d
      have c' : (s.heap.update T0 (Obj.mapFields (·.setIfInBounds 3 Value.none))).objs.size ≤ T := c
      rw [Heap.size_after_update] at c'
      exact c'
/-- the flight ends -/
theorem flight_core {T : Addr} {fl : Value} (x : Held s.heap e cls dd T fl) (k : ∀ h', (∀ b o, b ≠ T → s.heap.get? b = some o → h'.get? b = some o) → Fly h' e cls dd (some T) → Q () { s with heap := h' }) :
    wpAny M A (setFlight (.ref e) none) Q E s := by
  obtain ⟨⟨oe, vs, a0, q, hc, hdd, hd, h0, h1⟩, nT, oT, ts, qT, dT, t3⟩ := x
  have s3 : 3 < ts.size := (Array.getElem?_eq_some_iff.mp t3).1
  unfold setFlight
  refine wpAny_bind (wpAny_field q hd h1 ?_)
  rw [if_pos (show (Value.ref T != Value.none) = true by simp)]
  have oth : ∀ b, b ≠ T → (s.heap.update T (Obj.mapFields (·.setIfInBounds 3 ((none : Option Addr).elim Value.none fun f => rawInt f)))).get? b = s.heap.get? b := fun b n => Heap.get?_update_other _ _ (Ne.symm n)
  refine wpAny_setField qT dT s3 (k _ (fun b o n z => (oth b n).trans z) ⟨⟨oe, vs, a0, (oth e (Ne.symm nT)).trans q, hc, hdd, hd, h0, h1⟩, fun T' z => ?_⟩)
  cases z
  exact ⟨nT, _, _, Heap.get?_update_self _ qT (Obj.isFreed_of_fields (Obj.data_mapFields dT _)), Obj.data_mapFields dT _, by simp [s3]⟩
end
end L2

namespace L2
open PySem PySem.Spec PyProof.Rows L3

/-- behind a call: an exception has come -/
def CXE (P : Program) (w : World) : CXT := fun outer H s E e s' => ∃ ea c dd T H', e = .ref ea ∧ s'.os = s.os ∧ AllBare s'.gens ∧ Un (frs outer) [] H H' s.heap s'.heap ∧ HOk P w H' s'.heap ∧ Fly s'.heap ea c dd (some T) ∧
  s.heap.objs.size ≤ ea ∧ s.heap.objs.size ≤ T ∧ H' ea = none ∧ H' T = none ∧ E c dd H'
/-- within a body: an exception is in flight -/
structure XState (X : Cx) (pins : List (Addr × Obj)) (σ : St) (H : Hp) (s : Shared) (ea : Addr) (c : Value) (dd tb : Option Addr) : Prop where
  inv : Inv X pins σ H s
  fly : Fly s.heap ea c dd tb
  fe : FpOk X pins H ea
  ft : ∀ T, tb = some T → FpOk X pins H T
abbrev WX := St → XK
/-- what is told of an exception (W) is enough for what the code wants of it -/
def Lifts (X : Cx) (W : WX) : Prop := ∀ (pins : List (Addr × Obj)) (σ : St) (H : Hp) (s : Shared) (ea : Addr) (c : Value) (dd tb : Option Addr), XState X pins σ H s ea c dd tb → W σ c dd H → X.xe (.ref ea) s

section
variable {X : Cx} {pins : List (Addr × Obj)} {σ : St} {H : Hp} {s : Shared}
/-- the heap has changed at the frames' slots and at untracked records of ours alone -/
theorem hok_slots {h' : Heap} {ch : List Addr} (I : Inv X pins σ H s) (hc : ∀ b ∈ ch, H b = none) (k : ∀ b o, b ∉ frs X.stack → b ∉ ch → s.heap.get? b = some o → h'.get? b = some o) : HOk X.prog X.w H h' := fun b u e => by
  refine (I.hok b u e).stay (fun d v hd q => k d v (fun z => ?_) (fun z => ?_) q) (fun _ q => q) fun _ _ q => q
  · have n := I.stkFree d z
    rcases hd with w | w
    · rw [w, e] at n; cases n
    · rw [w] at n; cases n
  · have n := hc d z
    rcases hd with w | w
    · rw [w, e] at n; cases n
    · rw [w] at n; cases n
/-- a def's body: what is told of an exception is told of the call -/
theorem lifts_fn {P : Program} {w : World} {K : PySem.W.Frag} {mg : Str → Option Value} {base : Heap} {N : List Str} {qual : Str} {scope : Scope} {f : Addr} {cd : Value} {A : Around} {outer : List Env} {s0 : Shared} {H0 : Hp} {E : XK} :
    Lifts (cxOf (CXE P w) P w K mg base N qual scope f cd A outer s0 H0 E) (fun _ => E) := by
  intro pins σ H s ea c dd tb x hE
  show wpAny (model P w) (A.deeper (envOfC qual scope s0.heap.objs.size f cd)) (leaving (envOfC qual scope s0.heap.objs.size f cd) (.ref ea)) (fun _ s'' => CXE P w outer H0 s0 E (.ref ea) s'') (fun e' s'' => CXE P w outer H0 s0 E e' s'') s
  have I := x.inv
  have eaN : s0.heap.objs.size ≤ ea := by
    rcases x.fe.2.2.2.1 with z | z
    · exact absurd (show ea ∈ ([] : List Addr) from z) (by simp)
    · exact z
  have tN : ∀ T, tb = some T → s0.heap.objs.size ≤ T := fun T z => by
    rcases (x.ft T z).2.2.2.1 with y | y
    · exact absurd (show T ∈ ([] : List Addr) from y) (by simp)
    · exact y
  unfold leaving
  refine wpAny_bind (note_core (base := base) I.ok.frames I.stack rfl x.fly fun h1 T k1 k2 hT hd1 => ?_)
  refine flight_core hd1 fun h2 k3 fl2 => ?_
  have lt0 : ∀ {b : Addr} {o : Obj}, s0.heap.get? b = some o → b < s0.heap.objs.size := fun e => Heap.lt_size e
  have sN : s0.heap.objs.size ≤ s.heap.objs.size := I.sz
  have nT0 : ∀ {b : Addr}, b < s0.heap.objs.size → b ≠ T := fun h z => absurd (Nat.lt_of_lt_of_le h (Nat.le_trans sN hT)) (by rw [z]; exact Nat.lt_irrefl _)
  have nE0 : ∀ {b : Addr}, b < s0.heap.objs.size → b ≠ ea := fun h z => absurd (Nat.lt_of_lt_of_le h eaN) (by rw [z]; exact Nat.lt_irrefl _)
  have nB0 : ∀ {b : Addr}, b < s0.heap.objs.size → tb ≠ some b := fun h z => absurd (Nat.lt_of_lt_of_le h (tN _ z)) (Nat.lt_irrefl _)
  have nL0 : ∀ {b : Addr}, b < s0.heap.objs.size → b ∉ frs outer → b ∉ frs (envOfC qual scope s0.heap.objs.size f cd :: outer) := fun h z y => by
    rcases I.stkSub _ y |> List.mem_cons.mp with u | u
    · exact absurd h (by rw [u]; exact Nat.lt_irrefl _)
    · exact z u
  have nsT : ∀ {b : Addr} {o : Obj}, s.heap.get? b = some o → b ≠ T := fun e z => absurd (Nat.lt_of_lt_of_le (Heap.lt_size e) hT) (by rw [z]; exact Nat.lt_irrefl _)
  have hok2 : HOk P w H h2 := by
    refine hok_slots (ch := ea :: tb.toList) I (fun b hb => ?_) fun b o hb hc e => k3 b o (nsT e) (k1 b o hb (fun z => hc (by rw [z]; exact List.mem_cons_self)) (fun z => hc (List.mem_cons_of_mem _ (by rw [z]; simp))) e)
    rcases List.mem_cons.mp hb with z | z
    · rw [z]; exact x.fe.1
    · cases tb with
      | none => simp at z
      | some T0 =>
        have z' : b = T0 := by simpa using z
        rw [z']; exact (x.ft T0 rfl).1
  refine ⟨ea, c, dd, T, H, rfl, I.os, I.bare, ⟨fun b o e n hb hx => ?_, fun b o e n hb hx => ?_, I.base.free, fun b o e hx => ?_, I.base.tups, I.base.frzs, I.base.tbls⟩, hok2, fl2, eaN, Nat.le_trans sN hT, x.fe.1, I.hok.fresh hT, hE⟩
  · have l := lt0 e
    exact k3 b o (nT0 l) (k1 b o (nL0 l hb) (nE0 l) (nB0 l) (I.base.keep b o e n hb hx))
  · have l := lt0 e
    obtain ⟨sl, q⟩ := I.base.slot b o e n hb hx
    obtain ⟨sl', q'⟩ := k2 b _ q (nE0 l) (nB0 l)
    exact ⟨sl', k3 b _ (nT0 l) q'⟩
  · have l := lt0 e
    obtain ⟨o', q⟩ := I.base.there b o e hx
    obtain ⟨sl', q'⟩ := k2 b _ q (nE0 l) (nB0 l)
    exact ⟨_, k3 b _ (nT0 l) q'⟩
/-- behind a call that has raised -/
theorem xstate_of {E : XK} {e : Value} {s' : Shared} (I : Inv X pins σ H s) (h : CXE X.prog X.w X.stack H s E e s') : ∃ ea c dd T H', e = .ref ea ∧ XState X pins σ H' s' ea c dd (some T) ∧ E c dd H' := by
  obtain ⟨ea, c, dd, T, H', rfl, os, bare, un, hok, fl, l1, l2, n1, n2, q⟩ := h
  exact ⟨ea, c, dd, T, H', rfl, ⟨I.call' os un hok bare (fun b z => absurd z (by simp)), fl, I.fpOk l1 n1, fun T' z => by cases z; exact I.fpOk l2 n2⟩, q⟩
theorem passX {W : WX} {E : XK} (hL : Lifts X W) (h : ∀ σ c d H, E c d H → W σ c d H) : Passes (CXE X.prog X.w) X E := fun pins σ H s e s' I q => by
  obtain ⟨ea, c, dd, T, H', rfl, x, hE⟩ := xstate_of I q
  exact hL _ _ _ _ _ _ _ _ x (h _ _ _ _ hE)
end

/-! ### calls that may raise: what is wanted of the exception hangs on the names' values -/
def tCallX (sp : Sp) (dvs : List V) (W : WX) (t : TA) : TE := fun σ H Q => t σ H fun vs H1 => sp (vs ++ dvs) H1 Q (W σ)
section
variable {X : Cx} {k : Nat} {f C : Addr} {fd : FuncData} {ps : List Str} {sp : Sp} {dvs : List V} {ds : List Value} {W : WX} {x m : Str} {p pos apos : Pos} {e o : Expr} {es : List Expr} {ta : TE} {t : TA} {P : Program} {w : World}
theorem run_fnX {pins : List (Addr × Obj)} {σ : St} {H : Hp} {s : Shared} {Q : VK} {us : List Value} {vs : List V} (F : FnOk X.prog X.w X.K X.mg X.base (CXE X.prog X.w) k f fd ps sp) (hr : Room k X.A) (hb : Binds X.K fd ps ds) (hd : Vals dvs ds) (hx : Lifts X W)
    (I : Inv X pins σ H s) (r : Vals vs us) (h : sp (vs ++ dvs) H Q (W σ)) : wpAny (model X.prog X.w) X.A (call (.ref f) us) (EP X pins σ Q) X.xe s := by
  have r2 : Vals (vs ++ dvs) (us ++ ds) := r.append hd
  have hl : (us ++ ds).length = ps.length := by rw [← r2.length]; exact F.len _ _ _ _ h
  refine wpAny_call (codeAny_mono (F.run X.A X.stack s H ⟨us, []⟩ (us ++ ds) (vs ++ dvs) Q (W σ) hr I.env0 (hb s us I.kIn hl) r2 h) fun r s' hq => ?_)
  cases r with
  | error e =>
    obtain ⟨ea, c, dd, T, H', rfl, x, hE⟩ := xstate_of I hq
    exact hx _ _ _ _ _ _ _ _ x hE
  | ok fl =>
    cases fl with
    | ret u => exact I.after hq
    | next => exact False.elim hq
    | brk => exact False.elim hq
    | cont => exact False.elim hq
theorem pe_callX (F : FnOk P w X.K X.mg X.base (CXE P w) k f fd ps sp) (hr : Room k X.A) (hL : Lifts X W) (hg : Gl X x) (hm : X.mg x = some (.ref f)) (hk : PySem.W.keepIn X.K (.ref f) = true) (hb : Binds X.K fd ps ds) (hd : Vals dvs ds)
    (ha : PA X (e :: es) t) (hP : X.prog = P := by rfl) (hw : X.w = w := by rfl) (hdb : (x == ("__debug__" : Str)) = false := by decide) (he : starEach (e :: es) X.env = (false, eval e X.env) :: starEach es X.env := by rfl) (hpl : (backTo pos (starEach es X.env)).any (·.1) = false := by rfl) :
    PE X (.Call (.Name x p) (e :: es) [] pos) (tCallX sp dvs W t) := by
  subst hP hw
  intro pins s σ H Q I h
  refine wpAny_Call_Name_kw (ld_glob I hg hm ?_ hdb)
  refine PySem.W.callWith_K (h₀ := X.base) I.ok.mod.kin hk (thn (ha pos pins s σ H _ I h) fun us s1 ⟨vs, H1, I1, r, q⟩ => ⟨I1.kIn, ?_⟩) he hpl
  exact run_fnX F hr hb hd hL I1 r q
end

/-! ### a def that may raise -/
section
variable {P : Program} {w : World} {K : PySem.W.Frag} {mg : Str → Option Value} {base : Heap}
/-- the body is read with two facts at hand: its exceptions are the call's (W: E whatever the names hold), and loops let them pass -/
theorem Fun.okX {x qual : Str} {st : Stmt} {f : Addr} {fd : FuncData} {N ps : List Str} {k : Nat} {sp : Sp} (F : Fun K x qual st f fd) (S : FnScope N ps (defScope st)) (len : ∀ vs H Q E, sp vs H Q E → vs.length = ps.length)
    (hbody : ∀ (cdv : Value) (A : Around) (outer : List Env) (s : Shared) (H : Hp) (vs : List V) (Q : VK) (E : XK), Room k (A.deeper (envOfC qual (defScope st) s.heap.objs.size f cdv)) →
      Lifts (cxOf (CXE P w) P w K mg base N qual (defScope st) f cdv A outer s H E) (fun _ => E) →
      PassesOwn (model P w) (A.deeper (envOfC qual (defScope st) s.heap.objs.size f cdv)) (envOfC qual (defScope st) s.heap.objs.size f cdv) (cxOf (CXE P w) P w K mg base N qual (defScope st) f cdv A outer s H E).xe → sp vs H Q E →
      ∃ t, PSs (cxOf (CXE P w) P w K mg base N qual (defScope st) f cdv A outer s H E) (defBody st) t ∧ t { nx := fun _ H' => Q .non H', rt := Q } (start N vs) H) : FnOk P w K mg base (CXE P w) (k + 1) f fd ps sp := by
  obtain ⟨oc, od, kV, doc, pm, an, cdv, ct, osl, rfl, lk, hcd⟩ := F.ex
  exact fn_of lk hcd S len fun A outer s H vs Q E hr hsp => hbody cdv A outer s H vs Q E hr lifts_fn PassesOwn.leaving hsp
/-- a def that does not raise, as one that may -/
theorem FnOk.up {k : Nat} {f : Addr} {fd : FuncData} {ps : List Str} {sp : Sp} (F : FnOk P w K mg base CX0 k f fd ps sp) : FnOk P w K mg base (CXE P w) k f fd ps sp :=
  ⟨F.len, fun A outer s H args us vs Q E hr e0 hb hv hs => codeAny_mono (F.run A outer s H args us vs Q E hr e0 hb hv hs) fun r s' h => by
    cases r with
    | error e => exact (show False from h).elim
    | ok fl => cases fl <;> exact h⟩
end
end L2

namespace L2
open PySem PySem.Spec PyProof.Rows L3
open Sem (wp)

/-- what a class of errors under ValueError is in the heap (its own tail has no __init__); oi: its own __init__, where it has one -/
def XAt (h : Heap) (C : Addr) (oi : Option Value) : Prop := ∃ nm q N bs bm hdct sn sub ab col dd k0 k1 k2 k3 k5 mN, h.get? C = some (excClassObj nm q C N bs bm hdct sn sub ab col dd k0 k1 k2 k3 k5 "ValueError.__new__") ∧ h.Ns N mN ∧ mN "__init__" = oi ∧ OwnTail h bmVE bm
theorem XAt.keeps {h h' : Heap} {C : Addr} {oi : Option Value} (x : XAt h C oi) (k : ∀ b o, h.get? b = some o → h'.get? b = some o) : XAt h' C oi := by
  obtain ⟨nm, q, N, bs, bm, hdct, sn, sub, ab, col, dd, k0, k1, k2, k3, k5, mN, hC, hN, hi, T⟩ := x
  exact ⟨nm, q, N, bs, bm, hdct, sn, sub, ab, col, dd, k0, k1, k2, k3, k5, mN, k _ _ hC, hN.keeps k, hi, T.keeps k⟩
/-- by looking: a class of errors that has no __init__ of its own -/
def XCls (K : PySem.W.Frag) (C : Addr) : Prop := PySem.W.excIn K C bmVE "ValueError.__new__" = true
theorem XCls.at {K : PySem.W.Frag} {C : Addr} {h : Heap} (x : XCls K C) (X : K.In h) : XAt h C none := by
  unfold XCls PySem.W.excIn at x
  split at x
  · rename_i dd cd sl ho
    split at x
    · rename_i C' bm k0 k1 k2 k3 n k5 hm hs
      simp only [Bool.and_eq_true, beq_iff_eq, Bool.not_eq_true'] at x
      obtain ⟨⟨⟨⟨⟨e1, e2⟩, hdel⟩, ht⟩, hok⟩, hni⟩ := x
      subst e1 e2
      obtain ⟨nm, bs, mro, ns, qn, hd, sn, sub, ab, col, del⟩ := cd
      dsimp only at hm hdel hok hni
      subst hm hdel
      have hsl : sl = #[k0, k1, k2, k3, some (.builtin "ValueError.__new__"), k5] := by
        obtain ⟨l⟩ := sl
        exact congrArg Array.mk hs
      subst hsl
      exact ⟨nm, qn, ns, bs, bm, hd, sn, sub, ab, col, dd, k0, k1, k2, k3, k5, _, X _ _ ho, .of_isNs (PySem.W.isNs_of_in X hok), PySem.W.nsMap_none_of_in X hok hni, PySem.W.tail_of_in X ht⟩
    · cases x
  · cases x

section
variable {prog : Program} {w : World} {A : Around} {E : Value → Shared → Prop} {h : Heap} {g : Array GenState} {d : Drawn} {t : Nat} {os : OsState} {C : Addr}
/-- the record that __new__ makes -/
abbrev newX (C t : Addr) : Obj := { cls := .ref C, data := .fields #[.ref t, .none, .none, .none, .bool false, .none] }
abbrev argT (us : List Value) : Obj := { cls := .type "tuple", data := .seq us.toArray }
theorem exc_made {us : List Value} {Q : Fin → Shared → Prop} (x : XAt h C none) (hz : us.length ≤ sizeLine)
    (hq : ∀ h' t', (∀ b o, h.get? b = some o → h'.get? b = some o) → h'.get? (h.objs.size + 1) = some (newX C t') → Q (.done (.ret (.ref (h.objs.size + 1)))) ⟨h', g, d, t, os⟩) :
    wpAny (model prog w) A (Builtin.«type.__call__» ⟨.ref C :: us, []⟩) Q E ⟨h, g, d, t, os⟩ := by
  obtain ⟨nm, q, N, bs, bm, hdct, sn, sub, ab, col, dd, k0, k1, k2, k3, k5, mN, hC, hN, hi, T⟩ := x
  have Fv := PySem.F.excBase_ValueError
  repeat (first | (with_reducible refine wpAny_loadPart_at hC ?_) | (with_reducible refine wpAny_madeBy_exc hC ?_) | wp_step)
  refine codeAny_call_builtin_code (Code.quiet_builtin _ Fv.quiet) (wpAny_check_new_subU Fv rfl T hC (codeAny_exc_new_subU Fv rfl Fv T hC ?_ hz))
  show wpAny _ _ _ _ _ _
  have kk : ∀ b o, h.get? b = some o → ((h.push { cls := .type "tuple", data := .seq us.toArray }).push { cls := .ref C, data := .fields #[.ref h.objs.size, .none, .none, .none, .bool false, .none] }).get? b = some o := fun b o z => Heap.get?_push_of_some _ (Heap.get?_push_of_some _ z)
  have c1 := kk _ _ hC
  have n1 := hN.keeps kk
  have T1 := T.keeps kk
  have ge : ((h.push { cls := .type "tuple", data := .seq us.toArray }).push { cls := .ref C, data := .fields #[.ref h.objs.size, .none, .none, .none, .bool false, .none] }).get? (h.objs.size + 1) = some { cls := .ref C, data := .fields #[.ref h.objs.size, .none, .none, .none, .bool false, .none] } := by heap_get
  have cc : (Value.ref C :: bm).contains (.ref C) = true := by simp
  unfold isInstance
  repeat (first | (with_reducible refine wpAny_loadPart_at ge ?_) | (with_reducible refine wpAny_isSubtype_exc c1 ?_; rw [cc]) | wp_step)
  show wpAny _ _ (typeLookup (.ref C) _) _ _ _
  refine wpAny_typeLookup_tail c1 n1 T1 Fv.mroIs Fv.init.lookup ?_
  rw [hi]
  refine wpAny_holding (wpAny_bind (wpAny_of_eq (Fv.init.bind _) (wpAny_bind (wpAny_call (codeAny_call_builtin Fv.init.plain Fv.initEntry (wpAny_check_init_subU Fv T1 c1 ge rfl ?_))))))
  wp_walk
  refine hq _ (h.objs.size + 2) (fun b o z => ?_) ?_
  · rw [Heap.get?_update_other _ _ (Nat.ne_of_gt (Nat.lt_succ_of_lt (Heap.lt_size z)))]
    exact Heap.get?_push_of_some _ (kk b o z)
  · rw [Heap.get?_update_self _ (Heap.get?_push_of_some _ ge) rfl]
    simp only [Heap.size_push]
    rfl
/-- C(..) of a class of errors without an __init__ of its own: the address is told -/
theorem exc_call {us : List Value} {Q : Value → Shared → Prop} (x : XAt h C none) (hz : us.length ≤ sizeLine)
    (hq : ∀ h' t', (∀ b o, h.get? b = some o → h'.get? b = some o) → h'.get? (h.objs.size + 1) = some (newX C t') → Q (.ref (h.objs.size + 1)) ⟨h', g, d, t, os⟩) :
    wpAny (model prog w) A (call (.ref C) us) Q E ⟨h, g, d, t, os⟩ := by
  obtain ⟨nm, q, N, bs, bm, hdct, sn, sub, ab, col, dd, k0, k1, k2, k3, k5, mN, hC, r⟩ := id x
  have f1 := tc_lookup
  have f2 := tc_bind (.ref C)
  have hT : (⟨h, g, d, t, os⟩ : Shared).TypeIs (.ref C) "type" := ⟨_, hC, rfl⟩
  refine wpAny_call (codeAny_of_tree ?_)
  show wpAny _ _ (callAny (.ref C) _) _ _ _
  repeat (any_goals (first | assumption | (with_reducible refine wpAny_loadPart_at hC ?_) | wp_step))
  exact ⟨rfl, codeAny_call_builtin_at (Code.quiet_builtin _ (by decide +kernel)) entry_typeCall (wpAny_check_type_call_sub hC (exc_made x hz fun h' t' k q => hq h' t' k q))⟩
end
section
variable {M : Model} {A : Around} {E : Value → Shared → Prop} {s : Shared} {env : Env} {C : Addr}
/-- raise of a made exception -/
theorem raise_core {x : Sem Value} {Q : Flow → Shared → Prop} (hh : A.handled = none)
    (k : wpAny M A x (fun v s1 => ∃ e oe vs a0 oi, v = .ref e ∧ XAt s1.heap C oi ∧ s1.heap.get? e = some oe ∧ oe.cls = .ref C ∧ oe.data = .fields vs ∧ vs[0]? = some a0 ∧ vs[1]? = some .none ∧ E (.ref e) s1) E s) :
    wpAny M A (raiseStmt env (some x) none) Q E s := by
  unfold raiseStmt
  refine wpAny_bind (wpAny_mono k (fun v s1 z => ?_) fun _ _ y => y)
  obtain ⟨e, oe, vs, a0, oi, rfl, ⟨nm, q, N, bs, bm, hdct, sn, sub, ab, col, dd, k0, k1, k2, k3, k5, mN, hC, hN, hi, T⟩, he, hc, hd, h0, h1, hE⟩ := z
  have cB : (Value.ref C :: bm).contains (.type "BaseException") = true := by rw [List.contains_cons, T.hasType (show bmVE.contains (.type "BaseException") = true from rfl), Bool.or_true]
  obtain ⟨oc, od, oda, osl⟩ := oe
  dsimp only at hc hd
  subst hc hd
  obtain ⟨hp, g, d, tk, os⟩ := s1
  repeat (first | (with_reducible refine wpAny_loadPart_at he ?_) | (with_reducible refine wpAny_loadPart_at hC ?_) | (with_reducible refine wpAny_isSubtype_exc hC ?_; rw [cB]) | wp_step)
  rw [h1]
  refine wpAny_pure ?_
  rw [if_neg (by decide)]
  exact wpAny_pure (wpAny_raiseNew_none hh hE)
end
end L2

namespace L2
open PySem PySem.Spec PyProof.Rows L3

/-! ### raise -/
structure XC (K : PySem.W.Frag) (C : Addr) : Prop where
  exc : XCls K C
  kp : PySem.W.keepIn K (.ref C) = true
def tRaise (C : Addr) (W : WX) (t : TA) : TS := fun _ σ H => t σ H fun vs H1 => vs.length ≤ sizeLine ∧ W σ (.ref C) none H1
section
variable {X : Cx} {W : WX} {C : Addr} {x : Str} {np cpos pos : Pos} {e : Expr} {es : List Expr} {t : TA}
theorem ps_raise (hc : X.calm = true) (hL : Lifts X W) (xc : XC X.K C) (hg : Gl X x) (hm : X.mg x = some (.ref C)) (ha : PA X (e :: es) t) (hdb : (x == ("__debug__" : Str)) = false := by decide)
    (he : starEach (e :: es) X.env = (false, eval e X.env) :: starEach es X.env := by rfl) (hpl : (backTo cpos (starEach es X.env)).any (·.1) = false := by rfl) :
    PS X (.Raise (some (.Call (.Name x np) (e :: es) [] cpos)) none pos) (tRaise C W t) := by
  intro pins s σ H D I h
  rw [arm_exec_Raise]
  refine wpAny_bind (wpAny_standAt (raise_core (C := C) (I.ok.hd hc) (wpAny_bind (wpAny_mono ?_ (fun v s3 z => wpAny_bind (wpAny_standAt (wpAny_pure z))) fun _ _ y => y))))
  refine wpAny_Call_Name_kw (ld_glob I hg hm ?_ hdb)
  refine PySem.W.callWith_K (h₀ := X.base) I.ok.mod.kin xc.kp (thn (ha cpos pins s σ H _ I h) fun us s1 ⟨vs, H1, I1, r, hz, q⟩ => ⟨I1.kIn, ?_⟩) he hpl
  have xa := xc.exc.at I1.kIn
  obtain ⟨h1, g1, d1, t1, os1⟩ := s1
  refine exc_call xa (by rw [List.nil_append, ← r.length]; exact hz) fun h' t' k ge => ?_
  have I2 := I1.kept (t' := t1) k
  refine ⟨_, _, _, _, _, rfl, xa.keeps k, ge, rfl, rfl, rfl, rfl, hL _ _ _ _ _ _ _ (tb := none) ⟨I2, ⟨⟨_, _, _, ge, rfl, rfl, rfl, rfl, rfl⟩, fun T z => by cases z⟩, I1.fpOk (Nat.le_succ _) (I1.hok.fresh (Nat.le_succ _)), fun T z => by cases z⟩ q⟩
end

/-! ### does a clause match -/
section
variable {M : Model} {A : Around} {E : Value → Shared → Prop} {s : Shared}
theorem match_core {K : PySem.W.Frag} {ea : Addr} {c cv tb : Value} {dd : Option Addr} {b : Bool} {Q : Bool → Shared → Prop} (X : K.In s.heap) (he : ExcO s.heap ea c dd tb) (hb : PySem.W.kitCls K c cv = some b) (hx : PySem.W.kitCls K cv (.type "BaseException") = some true)
    (hq : Q b s) : wpAny M A (excMatches (.ref ea) cv) Q E s := by
  obtain ⟨l1, l2, l3⟩ := PySem.W.kit_cls (M := M) X hb
  obtain ⟨_, _, m3⟩ := PySem.W.kit_cls (M := M) X hx
  obtain ⟨oe, vs, a0, q, hc, _⟩ := he
  have nt := tc_notTuple
  unfold excMatches isInstance
  refine wpAny_bind (wpAny_bind (l1.at ?_))
  rw [nt]
  refine wpAny_pure ?_
  rw [if_neg Bool.false_ne_true]
  refine wpAny_bind (wpAny_pure ?_)
  simp only [List.forIn_cons, List.forIn_nil]
  unfold isExcClass
  refine wpAny_bind (wpAny_bind (wpAny_bind (wpAny_bind (l2.at ?_))))
  rw [if_pos rfl]
  refine m3.at ?_
  simp only [Bool.not_true, Bool.false_eq_true, if_false]
  refine wpAny_pure (wpAny_pure ?_)
  obtain ⟨hp, g, d, tk, os⟩ := s
  unfold typeOf
  refine wpAny_bind (wpAny_bind ?_)
  refine wpAny_loadPart_at q (wpAny_pure ?_)
  rw [hc]
  refine wpAny_bind (wpAny_bind (wpAny_bind (l3.at ?_)))
  cases b with
  | true => exact wpAny_pure (wpAny_pure (wpAny_pure hq))
  | false => exact wpAny_pure (wpAny_pure (wpAny_pure hq))
end

/-! ### the contexts of a try -/
abbrev Cx.body (X : Cx) (pn : List (Addr × Obj)) (E : Value → Shared → Prop) : Cx := { X with pn := pn, xe := E }
abbrev Cx.suite (X : Cx) (ea : Addr) (pn : List (Addr × Obj)) : Cx := { X with A := X.A.mark (some (.ref ea)), calm := false, pn := pn, xe := fun _ _ => False }
section
variable {X : Cx} {pins pl : List (Addr × Obj)} {σ : St} {H : Hp} {s : Shared} {ea : Addr} {E : Value → Shared → Prop}
theorem ok_body (ok : X.Ok) (pn : List (Addr × Obj)) (E : Value → Shared → Prop) : (X.body pn E).Ok :=
  ⟨ok.mod, ok.kind, ok.glob, ok.blt, ok.above, ok.inj, ok.has, ok.cab, ok.hd, ok.frames, ok.stk, ok.exf, ok.bs, ok.bsz, ok.noex, ok.exfs, ok.funs, ok.frf⟩
theorem ok_unbody {pn : List (Addr × Obj)} (ok : (X.body pn E).Ok) : X.Ok :=
  ⟨ok.mod, ok.kind, ok.glob, ok.blt, ok.above, ok.inj, ok.has, ok.cab, ok.hd, ok.frames, ok.stk, ok.exf, ok.bs, ok.bsz, ok.noex, ok.exfs, ok.funs, ok.frf⟩
theorem ok_suite (ok : X.Ok) (ea : Addr) (pn : List (Addr × Obj)) : (X.suite ea pn).Ok :=
  ⟨ok.mod, ok.kind, ok.glob, ok.blt, ok.above, ok.inj, ok.has, ok.cab, fun z => (by cases z), ok.frames, ok.stk, ok.exf, ok.bs, ok.bsz, ok.noex, ok.exfs, ok.funs, ok.frf⟩
theorem Inv.body (I : Inv X pins σ H s) (E : Value → Shared → Prop) : Inv (X.body (X.pn ++ pins) E) [] σ H s :=
  ⟨ok_body I.ok _ E, I.os, I.bare, I.base, I.loc, I.cell, I.free, I.freeC, fun p hp => I.pin p (by simpa using hp), I.hok, I.len⟩
theorem Inv.unbody (I : Inv (X.body (X.pn ++ pins) E) pl σ H s) : Inv X pins σ H s :=
  ⟨ok_unbody I.ok, I.os, I.bare, I.base, I.loc, I.cell, I.free, I.freeC, fun p hp => I.pin p (List.mem_append_left _ hp), I.hok, I.len⟩
theorem Inv.suite (I : Inv X pins σ H s) (ea : Addr) : Inv (X.suite ea (X.pn ++ pins)) [] σ H s :=
  ⟨ok_suite I.ok ea _, I.os, I.bare, I.base, I.loc, I.cell, I.free, I.freeC, fun p hp => I.pin p (by simpa using hp), I.hok, I.len⟩
theorem Inv.unsuite (ok : X.Ok) (I : Inv (X.suite ea (X.pn ++ pins)) pl σ H s) : Inv X pins σ H s :=
  ⟨ok, I.os, I.bare, I.base, I.loc, I.cell, I.free, I.freeC, fun p hp => I.pin p (List.mem_append_left _ hp), I.hok, I.len⟩
theorem FpOk.body {b : Addr} (f : FpOk (X.body (X.pn ++ pins) E) pl H b) : FpOk X pins H b :=
  ⟨f.1, f.2.1, f.2.2.1, f.2.2.2.1, f.2.2.2.2.1, fun p hp => f.2.2.2.2.2 p (List.mem_append_left _ hp)⟩
theorem SP.unbody {D : Ends} {f : Flow} (h : SP (X.body (X.pn ++ pins) E) pl D f s) : SP X pins D f s := by
  cases f with
  | next => obtain ⟨σ', H', I, q⟩ := h; exact ⟨σ', H', I.unbody, q⟩
  | brk => obtain ⟨σ', H', I, q⟩ := h; exact ⟨σ', H', I.unbody, q⟩
  | cont => obtain ⟨σ', H', I, q⟩ := h; exact ⟨σ', H', I.unbody, q⟩
  | ret u => obtain ⟨v, σ', H', I, r, q⟩ := h; exact ⟨v, σ', H', I.unbody, r, q⟩

/-- the exception is looked at in this frame -/
theorem look_core {c : Value} {dd tb : Option Addr} {Q : Unit → Shared → Prop} {E' : Value → Shared → Prop} (hs : X.stack = X.env :: X.outer) (hf : X.env.frame = some X.env.locals) (x : XState X pins σ H s ea c dd tb)
    (k : ∀ h' T, Inv X pins σ H { s with heap := h' } → Fly h' ea c dd (some T) → FpOk X pins H ea → FpOk X pins H T → Q () { s with heap := h' }) :
    wpAny (model X.prog X.w) X.A (noteFrame (.ref ea) X.env) (fun _ s2 => wpAny (model X.prog X.w) X.A (setFlight (.ref ea) none) Q E' s2) E' s := by
  have I := x.inv
  have st := I.stack
  have fr := I.ok.frames
  rw [hs] at st fr
  refine note_core (base := X.base) fr st hf x.fly fun h1 T k1 k2 hT hd1 => ?_
  refine flight_core hd1 fun h2 k3 fl2 => ?_
  have nsT : ∀ {b : Addr} {o : Obj}, s.heap.get? b = some o → b ≠ T := fun e z => absurd (Nat.lt_of_lt_of_le (Heap.lt_size e) hT) (by rw [z]; exact Nat.lt_irrefl _)
  have hch : ∀ b ∈ ea :: tb.toList, FpOk X pins H b := fun b hb => by
    rcases List.mem_cons.mp hb with z | z
    · rw [z]; exact x.fe
    · cases tb with
      | none => simp at z
      | some T0 =>
        have z' : b = T0 := by simpa using z
        rw [z']; exact x.ft T0 rfl
  have n1 : ∀ {b : Addr}, b ∉ ea :: tb.toList → b ≠ ea := fun h z => h (by rw [z]; exact List.mem_cons_self)
  have n2 : ∀ {b : Addr}, b ∉ ea :: tb.toList → tb ≠ some b := fun h z => h (List.mem_cons_of_mem _ (by rw [z]; simp))
  have kk : ∀ b o, b ∉ frs X.stack → b ∉ ea :: tb.toList → s.heap.get? b = some o → h2.get? b = some o := fun b o hb hc e => k3 b o (nsT e) (k1 b o (by rw [← hs]; exact hb) (n1 hc) (n2 hc) e)
  have ks : ∀ b o, b ∉ ea :: tb.toList → s.heap.get? b = some o → ∃ sl, h2.get? b = some { o with slots := sl } := fun b o hc e => by
    obtain ⟨sl, q⟩ := k2 b o e (n1 hc) (n2 hc)
    exact ⟨sl, k3 b _ (nsT e) q⟩
  have I2 : Inv X pins σ H { s with heap := h2 } := I.call (g' := s.gens) (d' := s.drawn) (t' := s.toks) (ch := ea :: tb.toList)
    ⟨fun b o e n hb hx => kk b o hb hx e, fun b o e n hb hx => ks b o hx e, fun _ _ _ n _ => n, fun b o e hx => let ⟨sl, q⟩ := ks b o hx e; ⟨_, q⟩, fun _ _ e => e, fun _ _ _ e => e, fun b ps e => ⟨#[], by rw [e]; simp⟩⟩
    (hok_slots I (fun b hb => (hch b hb).1) kk) I.bare fun b hb => ⟨(hch b hb).2.2.2.1, (hch b hb).2.1, (hch b hb).2.2.2.2.1, (hch b hb).2.2.2.2.2⟩
  exact k h2 T I2 fl2 x.fe (I.fpOk hT (I.hok.fresh hT))
end

/-! ### the exception as an object -/
def exo (ea : Addr) (c : Value) (dd : Option Addr) : HO := .ext fun h => ∃ o vs, h.get? ea = some o ∧ o.cls = c ∧ o.dict = dd ∧ o.data = .fields vs
theorem exo_ok {P : Program} {w : World} {H : Hp} {h : Heap} {ea : Addr} {c tb : Value} {dd : Option Addr} (x : ExcO h ea c dd tb) : ObjOk P w H h ea (exo ea c dd) := by
  obtain ⟨oe, vs, a0, q, hc, hdd, hd, _⟩ := x
  exact ⟨⟨oe, vs, q, hc, hdd, hd⟩, ⟨oe, q⟩, fun h1 h2 ⟨o, vs, e, r⟩ k => ⟨o, vs, k o e, r⟩⟩
section
variable {X : Cx} {pins : List (Addr × Obj)} {σ : St} {H : Hp} {s : Shared}
/-- the name of an except clause goes -/
theorem goes_ok {M : Model} {A : Around} {E : Value → Shared → Prop} {i : Nat} {n : Str} {pos : Pos} {Q : Unit → Shared → Prop} (I : Inv X pins σ H s) (hN : X.N.Nodup) (hi : X.N[i]? = some n) (hl : X.env.scope.names.lookup n = some .local)
    (k : ∀ s', Inv X pins (σ.set i none) H s' → Q () s') : wpAny M A (do bindName X.env n .none; unbindBehindTheSuite X.env n pos) Q E s := by
  obtain ⟨m, hn, hlo⟩ := id I.loc
  have hcls : (X.env.scope.kind == .class || (X.env.scope.kind == .module && X.env.locals != X.env.globals)) = false := by rw [I.ok.kind]; rfl
  have hil : i < σ.length := by rw [I.len]; exact (List.getElem?_eq_some_iff.mp hi).1
  refine wpAny_nameGoes_keeps hl hn hcls fun h' v hn' hs => k _ ?_
  have lt0 : ∀ {b : Addr} {o : Obj}, X.s₀.heap.get? b = some o → b ≠ X.env.locals := fun e => Nat.ne_of_lt (Nat.lt_of_lt_of_le (Heap.lt_size e) I.ok.above)
  refine ⟨I.ok, I.os, I.bare, ⟨fun b o e n hb hx => (hs.2 b (lt0 e)).trans (I.base.keep b o e n hb hx), fun b o e n hb hx => let ⟨sl, q⟩ := I.base.slot b o e n hb hx; ⟨sl, (hs.2 b (lt0 e)).trans q⟩, I.base.free,
    fun b o e hx => let ⟨o', q⟩ := I.base.there b o e hx; ⟨o', (hs.2 b (lt0 e)).trans q⟩, I.base.tups, I.base.frzs, I.base.tbls⟩, ⟨_, hn', fun j y v' e1 e2 e3 => ?_⟩, fun y c e => let ⟨u, z⟩ := I.cell y c e; ⟨u, z.sameBut hs (I.cne y c e)⟩, I.free, I.freeC,
    fun p hp => let ⟨e, n, ne, r⟩ := I.pin p hp; ⟨(hs.2 p.1 ne).trans e, n, ne, r⟩, fun b u e => ?_, by simpa using I.len⟩
  · by_cases hj : j = i
    · subst hj
      rw [List.getElem?_set_self hil] at e2
      cases e2
    · rw [List.getElem?_set_ne (Ne.symm hj)] at e2
      obtain ⟨u, r, q⟩ := hlo j y v' e1 e2 e3
      refine ⟨u, r, ?_⟩
      rcases q with ⟨kd, e⟩ | ⟨kd, c, e, z⟩
      · refine .inl ⟨kd, ?_⟩
        have ny : y ≠ n := fun z => hj (nodup_ix hN e1 (z ▸ hi))
        show (if y = n then v else m y) = some u
        rw [if_neg ny]
        exact e
      · exact .inr ⟨kd, c, e, z.sameBut hs (I.cne y c e)⟩
  · refine (I.hok b u e).stay (fun d w hd q => (hs.2 d fun z => ?_).trans q) (fun _ q => q) fun _ _ q => q
    have fr := I.free
    rw [← z] at fr
    rcases hd with y | y
    · rw [y, e] at fr; cases fr
    · rw [y] at fr; cases fr
end

/-! ### try: .. except C as n: .. -/
def tTryAs (K : PySem.W.Frag) (cv : Value) (i : Nat) (tb : WX → TS) (ts : TS) : TS := fun D σ H => tb (fun σ' c dd H' => PySem.W.kitCls K c cv = some true ∧
  ∀ ea, H' ea = none → ts ⟨fun σ2 H2 => D.nx (σ2.set i none) H2, D.rt, fun σ2 H2 => D.bk (σ2.set i none) H2, fun σ2 H2 => D.ct (σ2.set i none) H2⟩ (σ'.set i (some (.ref ea))) (upd H' ea (exo ea c dd))) D σ H
def tTry0 (K : PySem.W.Frag) (cv : Value) (tb : WX → TS) (ts : TS) : TS := fun D σ H => tb (fun σ' c dd H' => PySem.W.kitCls K c cv = some true ∧ ts D σ' H') D σ H
section
variable {X : Cx} {body : List Stmt} {b0 : Stmt} {suite : List Stmt} {x n : Str} {np hpos pos : Pos} {tb : WX → TS} {ts : TS} {cv : Value} {i : Nat}
theorem ps_tryAs (hs : X.stack = X.env :: X.outer) (hf : X.env.frame = some X.env.locals) (hx : X.ex = []) (hN : X.N.Nodup) (hi : X.N[i]? = some n) (hl : X.env.scope.names.lookup n = some .local)
    (hg : Gl X x) (hm : X.mg x = some cv) (hbx : PySem.W.kitCls X.K cv (.type "BaseException") = some true)
    (hb : ∀ (W : WX) (pn : List (Addr × Obj)) (E : Value → Shared → Prop), Lifts (X.body pn E) W → PassesOwn (model X.prog X.w) X.A X.env E → PSs (X.body pn E) body (tb W))
    (hsu : ∀ (ea : Addr) (pn : List (Addr × Obj)), PSs (X.suite ea pn) (b0 :: suite) ts) (hdb : (x == ("__debug__" : Str)) = false := by decide) :
    PS X (.Try body [.ExceptHandler (some (.Name x np)) (some n) (b0 :: suite) hpos] [] [] pos) (tTryAs X.K cv i tb ts) := by
  intro pins s σ H D I h
  have ok := I.ok
  refine wpAny_Try_except (wpAny_mono (hb _ (X.pn ++ pins) _ ?_ PassesOwn.looking [] s σ H D (I.body _) h) (fun f s1 q => ?_) fun _ _ y => y)
  · -- the exception
    intro pl σ1 H1 s1 ea c dd tb1 x1 hW
    obtain ⟨hk, hW⟩ := hW
    have x2 : XState X pins σ1 H1 s1 ea c dd tb1 := ⟨x1.inv.unbody, x1.fly, x1.fe.body, fun T z => (x1.ft T z).body⟩
    refine look_core hs hf x2 fun h' T I2 fl fe fT => ?_
    have I3 := I2.suite ea
    refine wpAny_handleBy_cons (codeAny_handlers_test (ld_glob (X := X.suite ea (X.pn ++ pins)) I3 hg hm ?_ hdb)) (by intro z; cases z)
    refine match_core I3.kIn fl.1 hk hbx (codeAny_handlers_suite_as ?_)
    refine flight_core (T := T) (fl := .none) ⟨fl.1, fl.2 T rfl⟩ fun h3 k3 fl3 => ?_
    have I4 : Inv X pins σ1 H1 { s1 with heap := h3 } := Inv.turned (s := { s1 with heap := h' }) (h' := h3) (t' := s1.toks) (it := T) I2 (fun b o hb e => k3 b o hb e) fT.1 fT.2.1 fT.2.2.2.1 fT.2.2.2.2.1 fT.2.2.2.2.2
    have ya : X.s₀.heap.objs.size ≤ ea := by
      rcases fe.2.2.2.1 with z | z
      · rw [hx] at z; exact absurd z (by simp)
      · exact z
    have I5 := Inv.adopt (o := exo ea c dd) I4 fe.1 ya fe.2.1 fe.2.2.2.2.1 fe.2.2.2.2.2 (exo_ok fl3.1)
    have I6 := I5.suite ea
    refine store_ok (X := X.suite ea (X.pn ++ pins)) (v := .ref ea) I6 hN hi (.inl hl) rfl (fun s4 I7 => ?_) (.inr hl)
    refine wpAny_mono (hsu ea (X.pn ++ pins) [] s4 _ _ _ I7 (hW ea fe.1)) (fun f s5 q => ?_) fun _ _ z => False.elim z
    cases f with
    | next => obtain ⟨σ', H', J, q⟩ := q; exact goes_ok (X := X) (Inv.unsuite ok J) hN hi hl fun s6 J6 => ⟨_, _, J6, q⟩
    | brk => obtain ⟨σ', H', J, q⟩ := q; exact goes_ok (X := X) (Inv.unsuite ok J) hN hi hl fun s6 J6 => ⟨_, _, J6, q⟩
    | cont => obtain ⟨σ', H', J, q⟩ := q; exact goes_ok (X := X) (Inv.unsuite ok J) hN hi hl fun s6 J6 => ⟨_, _, J6, q⟩
    | ret u => obtain ⟨v, σ', H', J, r, q⟩ := q; exact goes_ok (X := X) (Inv.unsuite ok J) hN hi hl fun s6 J6 => ⟨v, _, _, J6, r, q⟩
  · have q' := SP.unbody q
    cases f with
    | next => exact wpAny_execs_nil q'
    | brk => exact q'
    | cont => exact q'
    | ret u => exact q'
theorem ps_try0 (hs : X.stack = X.env :: X.outer) (hf : X.env.frame = some X.env.locals) (hg : Gl X x) (hm : X.mg x = some cv) (hbx : PySem.W.kitCls X.K cv (.type "BaseException") = some true)
    (hb : ∀ (W : WX) (pn : List (Addr × Obj)) (E : Value → Shared → Prop), Lifts (X.body pn E) W → PassesOwn (model X.prog X.w) X.A X.env E → PSs (X.body pn E) body (tb W))
    (hsu : ∀ (ea : Addr) (pn : List (Addr × Obj)), PSs (X.suite ea pn) (b0 :: suite) ts) (hdb : (x == ("__debug__" : Str)) = false := by decide) :
    PS X (.Try body [.ExceptHandler (some (.Name x np)) none (b0 :: suite) hpos] [] [] pos) (tTry0 X.K cv tb ts) := by
  intro pins s σ H D I h
  have ok := I.ok
  refine wpAny_Try_except (wpAny_mono (hb _ (X.pn ++ pins) _ ?_ PassesOwn.looking [] s σ H D (I.body _) h) (fun f s1 q => ?_) fun _ _ y => y)
  · intro pl σ1 H1 s1 ea c dd tb1 x1 hW
    obtain ⟨hk, hW⟩ := hW
    have x2 : XState X pins σ1 H1 s1 ea c dd tb1 := ⟨x1.inv.unbody, x1.fly, x1.fe.body, fun T z => (x1.ft T z).body⟩
    refine look_core hs hf x2 fun h' T I2 fl fe fT => ?_
    have I3 := I2.suite ea
    refine wpAny_handleBy_cons (codeAny_handlers_test (ld_glob (X := X.suite ea (X.pn ++ pins)) I3 hg hm ?_ hdb)) (by intro z; cases z)
    refine match_core I3.kIn fl.1 hk hbx (codeAny_handlers_suite ?_)
    refine flight_core (T := T) (fl := .none) ⟨fl.1, fl.2 T rfl⟩ fun h3 k3 fl3 => ?_
    have I4 : Inv X pins σ1 H1 { s1 with heap := h3 } := Inv.turned (s := { s1 with heap := h' }) (h' := h3) (t' := s1.toks) (it := T) I2 (fun b o hb e => k3 b o hb e) fT.1 fT.2.1 fT.2.2.2.1 fT.2.2.2.2.1 fT.2.2.2.2.2
    refine wpAny_mono (hsu ea (X.pn ++ pins) [] _ _ _ _ (I4.suite ea) hW) (fun f s5 q => ?_) fun _ _ z => False.elim z
    cases f with
    | next => obtain ⟨σ', H', J, q⟩ := q; exact ⟨_, _, Inv.unsuite ok J, q⟩
    | brk => obtain ⟨σ', H', J, q⟩ := q; exact ⟨_, _, Inv.unsuite ok J, q⟩
    | cont => obtain ⟨σ', H', J, q⟩ := q; exact ⟨_, _, Inv.unsuite ok J, q⟩
    | ret u => obtain ⟨v, σ', H', J, r, q⟩ := q; exact ⟨v, _, _, Inv.unsuite ok J, r, q⟩
  · have q' := SP.unbody q
    cases f with
    | next => exact wpAny_execs_nil q'
    | brk => exact q'
    | cont => exact q'
    | ret u => exact q'
end
end L2

namespace L2
open PySem PySem.Spec PySem.W PyProof.Rows L3

/-! ### isinstance of an exception, where it is one -/
theorem yes_ans {K : Frag} {x t c : Value} {H : Heap → Prop} (ty : ∀ (M : Model) (h : Heap), K.In h → H h → Looks M h (typeOf x) t) (e : kitOne K t c = some true) : Answers (fun s => K.In s.heap ∧ H s.heap) x c true := by
  intro dep tk prog w A R s hs
  obtain ⟨h0, g, d, tt, os⟩ := s
  obtain ⟨⟨kx, p⟩, hq⟩ := hs
  have L0 := ty (model prog w) h0 kx p
  unfold kitOne at e
  unfold Builtin.«isinstance.nested»
  refine (wpAny_bind (L0.at ?_))
  by_cases q : (t == c) = true
  · rw [if_pos q]
    first
      | exact wpAny_bind (wpAny_rule (hq tt))
      | exact wpAny_bind (wpAny_rule (wpAny_pure (hq tt)))
  · rw [if_neg q] at e
    rw [if_neg q]
    obtain ⟨c1, c2, c3⟩ := kit_cls (M := model prog w) kx e
    refine wpAny_bind (c1.at ?_)
    rw [if_pos (by decide)]
    k_delta "plainIsInstance"
    refine (wpAny_bind (wpAny_bind (c2.at ?_)))
    simp only [Bool.not_true, Bool.false_eq_true, if_false]
    refine wpAny_bind ((L0.andThen c3 : Looks (model prog w) h0 (isInstance x c) true).at ?_)
    first
      | exact wpAny_pure (wpAny_pure (hq tt))
      | (simp only [if_true]; first | exact wpAny_pure (wpAny_pure (hq tt)) | exact wpAny_pure (hq tt) | exact wpAny_bind (wpAny_pure (wpAny_pure (hq tt))))
def rIsiX (K : Frag) : List V → Hp → VK → Prop := fun xs H Q => ∃ ea c dd cl cv, xs = [.ref ea, cl] ∧ H ea = some (exo ea c dd) ∧ clsV cl = some cv ∧ kitOne K c cv = some true ∧ Q (.bl true) H
theorem call_isiX {X : Cx} : CallR X (.builtin "isinstance") (rIsiX X.K) := by
  intro pins s σ H xs us Q I r h
  obtain ⟨ea, c, dd, cl, cv, e, he, hc, hk, q⟩ := h
  subst e
  cases r with
  | cons r1 r2 =>
    cases r2 with
    | cons r2 r3 =>
      cases r3
      cases clsV_rel hc r2
      cases r1
      have ho : ∃ o, s.heap.get? ea = some o ∧ o.cls = c := by
        obtain ⟨⟨o, vs, e, c1, _⟩, _⟩ := I.hok ea _ he
        exact ⟨o, e, c1⟩
      have ty : ∀ (M : Model) (h : Heap), X.K.In h → (∃ o, h.get? ea = some o ∧ o.cls = c) → Looks M h (typeOf (.ref ea)) c := fun M h _ p => by
        obtain ⟨o, e, z⟩ := p
        exact z ▸ (Looks.ld e).andThen .now
      exact call_isinstance (S := fun _ R s => (X.K.In s.heap ∧ ∃ o, s.heap.get? ea = some o ∧ o.cls = c) ∧ ∀ tk, R (.ok (.ret (.bool true))) { s with toks := tk })
        (fun prog w A R s hs => isinstance_outer (yes_ans ty hk 0 _ prog w A R s hs) (fun z => nomatch z)) ⟨⟨I.kIn, ho⟩, fun tk => ⟨.bl true, H, I.tok tk, rfl, q⟩⟩
theorem isiX_K {X : Cx} (K : Frag) (h : X.K = K := by rfl) : CallR X (.builtin "isinstance") (rIsiX K) := by subst h; exact call_isiX
end L2

namespace L2
open PySem PySem.Spec PyProof.Rows
/-! ### rules whose reading names the written part alone (for blocks within a def) -/
section
variable {X : Cx}
theorem len_K (K : PySem.W.Frag) (h : X.K = K := by rfl) : CallR X (.builtin "len") (fun xs H Q => ∃ p ys, xs = [.ref p] ∧ (SqL K H p ys ∨ SqT K H p ys) ∧ Q (.int ys.length) H) := by subst h; exact call_len_seq
theorem ixl_K (K : PySem.W.Frag) (h : X.K = K := by rfl) : IxR X (rIxL K) := by subst h; exact ix_list
theorem ixt_K (K : PySem.W.Frag) (h : X.K = K := by rfl) : IxR X (rIxT K) := by subst h; exact ix_tup
theorem slt_K (K : PySem.W.Frag) (h : X.K = K := by rfl) : SlR X (rSlT K) := by subst h; exact sl_tup
theorem sll_K (K : PySem.W.Frag) (h : X.K = K := by rfl) : SlR X (rSlL K) := by subst h; exact sl_list
theorem in_K (K : PySem.W.Frag) (h : X.K = K := by rfl) : OpR X (compareOp .In) (rIn K false) := by subst h; exact op_in_seq
theorem notin_K (K : PySem.W.Frag) (h : X.K = K := by rfl) : OpR X (compareOp .NotIn) (rIn K true) := by subst h; exact op_notIn_seq
theorem fld_K {e : Expr} {f : Str} {pos : Pos} {ta : TE} (K : PySem.W.Frag) (he : PE X e ta) (hb : attributeBase e f X.env (eval e X.env) = eval e X.env) (h : X.K = K := by rfl) : PE X (.Attribute e f pos) (tFld K ta f) := by subst h; exact pe_fld he hb
end
end L2

namespace L2
open PySem PySem.Spec PyProof.Rows PySem.SeqAt
/-! ### data that is like itself -/
mutual
def noDict : PyData → Bool
  | .dict _ => false
  | .list xs => noDictAll xs
  | .tuple xs => noDictAll xs
  | _ => true
def noDictAll : List PyData → Bool
  | [] => true
  | x :: xs => noDict x && noDictAll xs
end
mutual
theorem noMix_self : ∀ d : PyData, noDict d = true → noMix d d = true ∧ same d d = true
  | .none, _ => ⟨rfl, rfl⟩
  | .bool b, _ => ⟨rfl, by simp [same]⟩
  | .int i, _ => ⟨rfl, by simp [same]⟩
  | .str x, _ => ⟨rfl, by simp [same]⟩
  | .list xs, h => by
    rw [noMix, same]
    exact noMixAll_self xs (by rw [noDict] at h; exact h)
  | .tuple xs, h => by
    rw [noMix, same]
    exact noMixAll_self xs (by rw [noDict] at h; exact h)
  | .dict _, h => by rw [noDict] at h; cases h
theorem noMixAll_self : ∀ xs : List PyData, noDictAll xs = true → noMixAll xs xs = true ∧ sameAll xs xs = true
  | [], _ => ⟨by rw [noMixAll], by rw [sameAll]⟩
  | x :: xs, h => by
    rw [noDictAll, Bool.and_eq_true] at h
    obtain ⟨a, b⟩ := noMix_self x h.1
    obtain ⟨c, d⟩ := noMixAll_self xs h.2
    rw [noMixAll, sameAll, a, b, c, d]
    exact ⟨rfl, rfl⟩
end
mutual
theorem canLay_noDict : ∀ d : PyData, d.canLay0 = true → noDict d = true
  | .none, _ => rfl
  | .bool b, _ => rfl
  | .int i, _ => rfl
  | .str x, _ => rfl
  | .list xs, h => by rw [noDict]; exact canLayAll_noDict xs (by rw [PyData.canLay0] at h; exact h)
  | .tuple xs, h => by rw [noDict]; exact canLayAll_noDict xs (by rw [PyData.canLay0] at h; exact h)
  | .dict _, h => by rw [PyData.canLay0] at h; cases h
theorem canLayAll_noDict : ∀ xs : List PyData, PyData.canLayAll0 xs = true → noDictAll xs = true
  | [], _ => by rw [noDictAll]
  | x :: xs, h => by
    rw [PyData.canLayAll0, Bool.and_eq_true] at h
    rw [noDictAll, canLay_noDict x h.1, canLayAll_noDict xs h.2]
    rfl
end
theorem self_of {d : PyData} (h : shaped d = true) : noMix d d = true ∧ same d d = true := noMix_self d (canLay_noDict d (canLay_of_shaped h))
theorem neD_self {K : PySem.W.Frag} {H : Hp} {x y : V} {Q : VK} {d : PyData} (hx : DatV K H x d) (hy : DatV K H y d) (hs : shaped d = true) (q : Q (.bl false) H) : rEqD K true x y H Q := by
  obtain ⟨a, b⟩ := self_of hs
  refine ⟨d, d, hx, hy, hs, hs, a, ?_⟩
  rw [if_pos rfl, b]
  exact q
theorem eqD_self {K : PySem.W.Frag} {H : Hp} {x y : V} {Q : VK} {d : PyData} (hx : DatV K H x d) (hy : DatV K H y d) (hs : shaped d = true) (q : Q (.bl true) H) : rEqD K false x y H Q := by
  obtain ⟨a, b⟩ := self_of hs
  refine ⟨d, d, hx, hy, hs, hs, a, ?_⟩
  rw [if_neg Bool.false_ne_true, b]
  exact q
theorem canLay_map {α : Type} {f : α → PyData} : ∀ {l : List α}, (∀ a ∈ l, (f a).canLay0 = true) → PyData.canLayAll0 (l.map f) = true
  | [], _ => by simp [PyData.canLayAll0]
  | a :: l, h => by
    rw [List.map_cons, PyData.canLayAll0, h a List.mem_cons_self, canLay_map fun b hb => h b (List.mem_cons_of_mem _ hb)]
    rfl
theorem depth_map {α : Type} {f : α → PyData} {k : Nat} : ∀ {l : List α}, (∀ a ∈ l, (f a).depth ≤ k) → PyData.depthAll (l.map f) ≤ k
  | [], _ => by simp [PyData.depthAll]
  | a :: l, h => by
    have h1 := h a List.mem_cons_self
    have h2 := depth_map fun b hb => h b (List.mem_cons_of_mem _ hb)
    simp only [List.map_cons, PyData.depthAll]
    omega
theorem shaped_map {α : Type} {f : α → PyData} {l : List α} (h1 : ∀ a ∈ l, (f a).canLay0 = true) (h2 : ∀ a ∈ l, (f a).depth ≤ 60) : shaped (.list (l.map f)) = true := by
  have d := depth_map h2
  unfold shaped
  rw [Bool.and_eq_true]
  refine ⟨by simp only [PyData.canLay0]; exact canLay_map h1, decide_eq_true ?_⟩
  simp only [PyData.depth]
  omega
theorem datVs_map {α : Type} {K : PySem.W.Frag} {H : Hp} {F : V → α → Prop} {f : α → PyData} (h : ∀ v a, F v a → DatV K H v (f a)) : ∀ {vs : List V} {l : List α}, Paired F vs l → DatVs K H vs (l.map f)
  | _, _, .nil => .nil
  | _, _, .cons g t => .cons (h _ _ g) (datVs_map h t)
end L2

namespace L2
open PySem PySem.Spec PyProof.Rows
open Sem (wp)
/-! ### a tuple times an int -/
theorem tupNoFill : fillsNumberSlot (.type "tuple") "mul" = pure false :=
  (PySem.fillsNumberSlot_seq (id := "tuple.__mul__") (r := some (.builtin "tuple.__rmul__")) F.slot_tuple_mul.lookup (by decide +kernel) F.slot_tuple_rmul.lookup (by decide +kernel))
theorem tupRepeats : seqRepeat? (.type "tuple") = pure (some (.builtin "tuple.__mul__")) := by
  unfold seqRepeat?
  rw [(PySem.seqSlot_of (T := "tuple") (name := "__mul__") (id := "tuple.__mul__") F.slot_tuple_mul.lookup (by decide +kernel)), (PySem.seqSlot_of (T := "tuple") (name := "__rmul__") (id := "tuple.__rmul__") F.slot_tuple_rmul.lookup (by decide +kernel))]
  rfl
theorem int_rmul_tup (k : Int) (t : Tok) (l : Addr) (items : Array Value) (n : Nat) (dd : Option Addr) (sl : Array (Option Value)) :
    Meets (Builtin.«int.__rmul__» ⟨[.int k t, .ref l], []⟩) (fun _ R s => s.heap.get? l = some ⟨.type "tuple", dd, .seq items n, sl⟩ ∧ R (.ok (.ret Value.notImplemented)) s) :=
  .of_wp fun prog w A R s h => by obtain ⟨hp, g, d, tk, os⟩ := s; obtain ⟨hl, h⟩ := h; wp_walk; exact (⟨_, rfl, h⟩)
theorem tup_mul0 (l : Addr) (items : Array Value) (n : Nat) (dd : Option Addr) (sl : Array (Option Value)) (t : Tok) (hv : items.isEmpty = false) :
    Meets (Builtin.«tuple.__mul__» ⟨[.ref l, .int 0 t], []⟩) (fun _ R s => s.heap.get? l = some ⟨.type "tuple", dd, .seq items n, sl⟩ ∧ R (.ok (.ret (.ref s.heap.objs.size))) { s with heap := s.heap.push { cls := .type "tuple", data := .seq #[] } }) :=
  .of_wp fun prog w A R s h => by
    obtain ⟨hp, g, d, tk, os⟩ := s
    obtain ⟨hl, h⟩ := h
    wp_walk
    exact ⟨_, rfl, h⟩
theorem tup_mulN (l : Addr) (items : Array Value) (n : Nat) (dd : Option Addr) (sl : Array (Option Value)) (k : Int) (t : Tok) (hv : items.isEmpty = false) (h1 : 1 < k) (h2 : k < 2 ^ 62) (hz : items.size * k.toNat ≤ sizeLine) :
    Meets (Builtin.«tuple.__mul__» ⟨[.ref l, .int k t], []⟩) (fun _ R s => s.heap.get? l = some ⟨.type "tuple", dd, .seq items n, sl⟩ ∧ R (.ok (.ret (.ref s.heap.objs.size))) { s with heap := s.heap.push { cls := .type "tuple", data := .seq ((List.replicate k.toNat items).foldl (· ++ ·) #[]) } }) :=
  .of_wp fun prog w A R s h => by
    obtain ⟨hp, g, d, tk, os⟩ := s
    obtain ⟨hl, h⟩ := h
    have ek : ((k.toNat : Nat) : Int) = k := by omega
    have ez : (items.size : Int) * k = ((items.size * k.toNat : Nat) : Int) := by rw [Int.natCast_mul, ek]
    have hz' : items.size * k.toNat ≤ 2 ^ 40 := Nat.le_trans hz (by decide)
    have c1 : ¬ ((decide (k < -2 ^ 63) || decide (k ≥ 2 ^ 63)) = true) := by
      rw [decide_eq_false (by omega), decide_eq_false (by omega)]; exact Bool.false_ne_true
    have c2 : ¬ ((items.isEmpty || k == 1) = true) := by
      rw [hv, beq_eq_false_iff_ne.mpr (by omega)]; exact Bool.false_ne_true
    have c3 : ¬ ((decide (k ≤ 0) || items.isEmpty) = true) := by
      rw [hv, decide_eq_false (by omega)]; exact Bool.false_ne_true
    have c4 : ¬ ((items.size : Int) * k > (2 ^ 63 - 1) / 8) := by
      rw [ez]; omega
    have c5 : ¬ (Builtin.Tuple.tupleTooMany ((items.size : Int) * k) = true) := by
      rw [ez]
      unfold Builtin.Tuple.tupleTooMany
      simp only [decide_eq_true_eq]
      have : (sizeLine : Nat) ≤ sizeLine := Nat.le_refl _
      omega
    have c6 : sizeOk (.seq ((List.replicate k.toNat items).foldl (· ++ ·) #[])) := by
      show ((List.replicate k.toNat items).foldl (· ++ ·) #[]).size ≤ sizeLine
      have := foldl_rep items.toList k.toNat []
      simp only [Array.toArray_toList, List.nil_append] at this
      rw [this, List.size_toArray, len_rep, Array.length_toList, Nat.mul_comm]
      exact hz
    wp_walk
    rw [if_neg c1]
    wp_walk
    rw [if_neg c2]
    wp_walk
    rw [if_neg c3]
    dsimp only
    rw [if_neg c4]
    rw [if_neg c5]
    refine wpAny_bind (m := Builtin.Tuple.tupleExact _) (wpAny_newObj_type ?_ c6)
    exact wpAny_pure ⟨_, rfl, h⟩
section
variable {X : Cx}
/-- t * k: t not empty, k not 1 -/
def rRepT (K : PySem.W.Frag) : R2 := fun x y H Q => ∃ a k xs, x = .ref a ∧ y = .int k ∧ SqT K H a xs ∧ xs ≠ [] ∧ (k = 0 ∨ 1 < k) ∧ k < 2 ^ 62 ∧ xs.length * k.toNat ≤ sizeLine ∧
  ∀ p, H p = none → Q (.ref p) (upd H p (.tup (List.replicate k.toNat xs).flatten))
theorem op_repT : OpR X (binaryOp .Mult) (rRepT X.K) := by
  intro pins s σ H x y v u Q I rx ry h
  obtain ⟨a, k, xs, rfl, rfl, ha, hx, hk, h2, hz, q⟩ := h
  cases rx
  obtain ⟨t, rfl⟩ := ry
  obtain ⟨its, r, ht, hl⟩ := I.tuple ha
  have lr : xs.length = its.length := r.length
  have hne : its.toArray.isEmpty = false := by
    cases its with
    | nil => exact absurd (List.length_eq_zero_iff.mp lr) hx
    | cons a b => rfl
  obtain ⟨⟨cls, dd, data, sl⟩, ho, hc, n, hd⟩ := id ht
  simp only at hc hd
  subst hc hd
  refine wpAny_binaryOp_repeat_ref (T := "tuple") (U := "int") (by decide) ⟨_, ho, rfl⟩ (fun s' => typeIs_int s' k t) tupNoFill F.fills_int_mul F.slot_int_rmul tupRepeats F.slot_int_index.lookup
    (call_meets F.slot_int_rmul (typeIs_int s k t) F.entry_int_rmul (F.args_int_rmul_2 _ _) (int_rmul_tup k t a its.toArray n dd sl) ⟨ho, rfl, ⟨_, ho, rfl⟩, ?_⟩)
  rcases hk with rfl | hk
  · refine call_meets F.slot_tuple_mul ⟨_, ho, rfl⟩ F.entry_tuple_mul (F.args_tuple_mul_2 _ _) (tup_mul0 a its.toArray n dd sl t hne) ⟨ho, ?_⟩
    refine ⟨.ref s.heap.objs.size, _, I.laid (t' := s.toks) (o := .tup []) (fun b ob q => Heap.get?_push_of_some _ q) (Nat.le_refl _) ?_, rfl, q _ (I.hok.fresh (Nat.le_refl _))⟩
    exact ⟨Nat.zero_le _, [], .nil, IsTup.new _ _⟩
  · refine call_meets F.slot_tuple_mul ⟨_, ho, rfl⟩ F.entry_tuple_mul (F.args_tuple_mul_2 _ _) (tup_mulN a its.toArray n dd sl k t hne hk h2 (by rw [List.size_toArray, ← lr]; exact hz)) ⟨ho, ?_⟩
    have e : List.foldl (fun x1 x2 => x1 ++ x2) #[] (List.replicate k.toNat its.toArray) = (List.replicate k.toNat its).flatten.toArray := by
      have := foldl_rep its k.toNat []
      rw [List.nil_append] at this
      exact this
    rw [e]
    refine ⟨.ref s.heap.objs.size, _, I.laid (t' := s.toks) (o := .tup (List.replicate k.toNat xs).flatten) (fun b ob q => Heap.get?_push_of_some _ q) (Nat.le_refl _) ?_, rfl, q _ (I.hok.fresh (Nat.le_refl _))⟩
    exact ⟨by rw [len_rep, Nat.mul_comm]; exact hz, _, r.rep k.toNat, IsTup.new _ _⟩
end
end L2

namespace HT
open PySem PySem.Spec PyProof.Rows
open Sem (wp)
section
variable {prog : Program} {w : World} {A : Around} {E : Value → Shared → Prop} {s : Shared}
/-- t[a:b] where it is the whole: t itself -/
theorem getItem_tuple_all {t sl : Addr} {items : Array Value} {vl vu : Value} {lo hi : Option Int} {Q : Value → Shared → Prop} (ht : IsTup s.heap t items) (hs : s.heap.IsSliceOf sl vl vu .none) (pl : IsPart vl lo) (pu : IsPart vu hi)
    (hw : sIx items.size 0 lo = 0 ∧ sIx items.size items.size hi = items.size) (h : Q (.ref t) s) : wpAny (model prog w) A (getItem (.ref t) (.ref sl)) Q E s := by
  obtain ⟨os, hos, hcs, hds⟩ := id hs
  have hTs : (s.TypeIs (.ref sl) "slice") := ⟨os, hos, hcs⟩
  unfold getItem
  try with_reducible refine wpAny_holding ?_
  first | refine wpAny_bind (wpAny_pure ?_) | skip
  refine (wpAny_bind (wpAny_sequenceKey ht.typeIs (by decide) ?_))
  refine (wpAny_bind (wpAny_callSpecial?_slot (name := Str.ofString "__getitem__") ht.typeIs PyProof.Rows.slot_tuple_getitem (wpAny_call_entry PyProof.Rows.slot_tuple_getitem ht.typeIs entry_tuple_getitem ?_ (args_tuple_getitem _ _))))
  show wpAny _ _ ((Builtin.Tuple.tupleItemsOf (.ref t)) >>= _) _ _ s
  refine (wpAny_bind (tupleItemsOf_ ht ?_))
  refine (wpAny_bind (wpAny_typeOf hTs ?_))
  rw [if_pos (by decide)]
  refine (wpAny_bind (sliceApplied_gen hs pl pu ?_))
  have hyes : ((((sIx items.size 0 lo : Nat) : Int) == 0 && (1 : Int) == 1 && (sIx items.size items.size hi - sIx items.size 0 lo) == items.size) = true) := by
    rw [hw.1, hw.2]; simp
  show wpAny _ _ (if ((((sIx items.size 0 lo : Nat) : Int) == 0 && (1 : Int) == 1 && (sIx items.size items.size hi - sIx items.size 0 lo) == items.size)) = true then _ else _) _ _ s
  rw [if_pos hyes]
  unfold Builtin.Tuple.tupleIsExact
  refine wpAny_bind (wpAny_bind (wpAny_typeOf ht.typeIs (wpAny_pure ?_)))
  rw [if_pos (by decide)]
  refine wpAny_bind (wpAny_rule ?_)
  first
    | exact wpAny_pure ⟨_, rfl, wpAny_pure h⟩
    | exact wpAny_bind (wpAny_pure (wpAny_pure ⟨_, rfl, wpAny_pure h⟩))
    | (wp_walk; exact ⟨_, rfl, wpAny_pure h⟩)
end
end HT
namespace L2
open PySem PySem.Spec PyProof.Rows
section
variable {X : Cx}
/-- t[lo:hi]: the whole of it is t itself -/
def rSlT2 (K : PySem.W.Frag) : V → Option Int → Option Int → Hp → VK → Prop := fun x lo hi H Q => ∃ a xs, x = .ref a ∧ SqT K H a xs ∧
  ((HT.sIx xs.length 0 lo = 0 ∧ HT.sIx xs.length xs.length hi = xs.length) → Q (.ref a) H) ∧ (¬ (HT.sIx xs.length 0 lo = 0 ∧ HT.sIx xs.length xs.length hi = xs.length) → ∀ p, H p = none → Q (.ref p) (upd H p (.tup (cutV xs lo hi))))
theorem sl_tup2 : SlR X (rSlT2 X.K) := by
  intro pins s σ H x v vl vu lo hi sl Q I rx hs pl pu h
  obtain ⟨a, xs, rfl, hx, q1, q2⟩ := h
  by_cases hw : (HT.sIx xs.length 0 lo = 0 ∧ HT.sIx xs.length xs.length hi = xs.length)
  · cases rx
    obtain ⟨its, r, ht, hz⟩ := I.tuple hx
    have hlen : its.toArray.size = xs.length := by rw [List.size_toArray]; exact r.length.symm
    refine ⟨"tuple", _, PyProof.Rows.slot_tuple_getitem.lookup, ht.typeIs, ?_⟩
    exact HT.getItem_tuple_all ht hs pl pu (by rw [hlen]; exact hw) ⟨.ref a, H, I, rfl, q1 hw⟩
  · exact sl_tup pins s σ H _ v vl vu lo hi sl Q I rx hs pl pu ⟨a, xs, rfl, hx, hw, q2 hw⟩
end
end L2

namespace L2
open PySem PySem.Spec PyProof.Rows

/-! ### lists of pairs as tables -/
section
variable {κ : Type} [DecidableEq κ]
def valV (kvs : List (κ × V)) (k : κ) : Option V := (kvs.find? fun kv => decide (kv.1 = k)).map (·.2)
/-- in its place, or at the end -/
def putK (kvs : List (κ × V)) (k : κ) (v : V) : List (κ × V) :=
  if (kvs.any fun kv => decide (kv.1 = k)) = true then kvs.map (fun kv => if kv.1 = k then (kv.1, v) else kv) else kvs ++ [(k, v)]
def dropK (kvs : List (κ × V)) (k : κ) : List (κ × V) := kvs.filter fun kv => decide (kv.1 ≠ k)

theorem valV_nil {k : κ} : valV ([] : List (κ × V)) k = none := rfl
theorem valV_pos {p : κ × V} {r : List (κ × V)} {k : κ} (e : p.1 = k) : valV (p :: r) k = some p.2 := by simp [valV, List.find?_cons, e]
theorem valV_neg {p : κ × V} {r : List (κ × V)} {k : κ} (e : ¬ p.1 = k) : valV (p :: r) k = valV r k := by simp [valV, List.find?_cons, e]
theorem valV_any (k : κ) : ∀ kvs : List (κ × V), (kvs.any fun kv => decide (kv.1 = k)) = (valV kvs k).isSome
  | [] => rfl
  | p :: r => by
    rw [List.any_cons]
    by_cases e : p.1 = k
    · simp only [valV_pos e, decide_eq_true e, Bool.true_or, Option.isSome_some]
    · rw [valV_neg e, decide_eq_false e, Bool.false_or]; exact valV_any k r
theorem valV_map (k j : κ) (y : V) : ∀ kvs : List (κ × V), valV (kvs.map fun kv => if kv.1 = k then (kv.1, y) else kv) j = (valV kvs j).map fun x => if j = k then y else x
  | [] => rfl
  | p :: r => by
    have ih := valV_map k j y r
    rw [List.map_cons]
    by_cases h : p.1 = k
    · rw [if_pos h]
      by_cases e : p.1 = j
      · rw [valV_pos (p := (p.1, y)) e, valV_pos e, Option.map_some, if_pos (e.symm.trans h)]
      · rw [valV_neg (p := (p.1, y)) e, valV_neg e, ih]
    · rw [if_neg h]
      by_cases e : p.1 = j
      · rw [valV_pos (p := p) e, valV_pos e, Option.map_some, if_neg (fun z => h (e.trans z))]
      · rw [valV_neg (p := p) e, valV_neg e, ih]
theorem valV_snoc (k j : κ) (y : V) : ∀ kvs : List (κ × V), valV kvs k = none → valV (kvs ++ [(k, y)]) j = if j = k then some y else valV kvs j
  | [], _ => by
    by_cases e : k = j
    · rw [if_pos e.symm]; exact valV_pos (p := (k, y)) e
    · rw [if_neg (fun z => e z.symm)]; exact valV_neg (p := (k, y)) e
  | p :: r, hn => by
    rw [List.cons_append]
    have hk : ¬ p.1 = k := fun z => by rw [valV_pos z] at hn; cases hn
    rw [valV_neg hk] at hn
    have ih := valV_snoc k j y r hn
    by_cases e : p.1 = j
    · rw [valV_pos e, valV_pos e, if_neg (fun z => hk (e.trans z))]
    · rw [valV_neg e, valV_neg e, ih]
theorem valV_put (kvs : List (κ × V)) (k j : κ) (y : V) : valV (putK kvs k y) j = if j = k then some y else valV kvs j := by
  unfold putK
  by_cases a : (kvs.any fun kv => decide (kv.1 = k)) = true
  · rw [if_pos a, valV_map]
    rw [valV_any] at a
    by_cases e : j = k
    · obtain ⟨x, hx⟩ := Option.isSome_iff_exists.mp a
      rw [if_pos e, e, hx, Option.map_some, if_pos rfl]
    · rw [if_neg e]
      cases valV kvs j with
      | none => rfl
      | some x => rw [Option.map_some, if_neg e]
  · rw [if_neg a]
    refine valV_snoc k j y kvs ?_
    rw [valV_any] at a
    cases q : valV kvs k with
    | none => rfl
    | some x => rw [q] at a; exact (a rfl).elim
theorem length_putK (kvs : List (κ × V)) (k : κ) (v : V) : (putK kvs k v).length ≤ kvs.length + 1 := by
  unfold putK
  split
  · rw [List.length_map]; omega
  · rw [List.length_append, List.length_cons, List.length_nil]; omega
theorem putK_new {kvs : List (κ × V)} {k : κ} (v : V) (h : valV kvs k = none) : putK kvs k v = kvs ++ [(k, v)] := by
  unfold putK
  rw [valV_any, h]
  exact if_neg (by decide)

theorem RelO.isSome_eq {o : Option V} {u : Option Value} (r : RelO o u) : o.isSome = u.isSome := by
  cases o with
  | none => cases u with
    | none => rfl
    | some _ => exact (show False from r).elim
  | some _ => cases u with
    | none => exact (show False from r).elim
    | some _ => rfl
theorem RelO.getD {o : Option V} {u : Option Value} {d : V} {d' : Value} (r : RelO o u) (rd : RelV d d') : RelV (o.getD d) (u.getD d') := by
  cases o with
  | none => cases u with
    | none => exact rd
    | some _ => exact (show False from r).elim
  | some _ => cases u with
    | none => exact (show False from r).elim
    | some _ => exact r

/-- raw tables of the same keys -/
theorem KV.val {kvs : List (κ × V)} {vs : List (κ × Value)} (r : KV kvs vs) (k : κ) : RelO (valV kvs k) (valueAt vs k) := by
  unfold KV at r
  induction r with
  | nil => exact True.intro
  | @cons p q ps qs h t ih =>
    obtain ⟨h1, h2⟩ := h
    by_cases e : p.1 = k
    · have e' : q.1 = k := h1.symm.trans e
      have b : valueAt (q :: qs) k = some q.2 := by simp [valueAt, List.find?_cons, e']
      rw [valV_pos e, b]; exact h2
    · have e' : ¬ q.1 = k := fun z => e (h1.trans z)
      have b : valueAt (q :: qs) k = valueAt qs k := by simp [valueAt, List.find?_cons, e']
      rw [valV_neg e, b]; exact ih
theorem KV.any {kvs : List (κ × V)} {vs : List (κ × Value)} (r : KV kvs vs) (k : κ) : (kvs.any fun kv => decide (kv.1 = k)) = vs.any fun kv => decide (kv.1 = k) := by
  unfold KV at r
  induction r with
  | nil => rfl
  | cons h t ih => rw [List.any_cons, List.any_cons, ih, h.1]
theorem KV.repl {kvs : List (κ × V)} {vs : List (κ × Value)} (r : KV kvs vs) (k : κ) {y : V} {u : Value} (ry : RelV y u) :
    KV (kvs.map fun kv => if kv.1 = k then (kv.1, y) else kv) (vs.map fun kv => if kv.1 = k then (kv.1, u) else kv) := by
  unfold KV at r ⊢
  induction r with
  | nil => exact .nil
  | @cons p q ps qs h t ih =>
    rw [List.map_cons, List.map_cons]
    refine .cons ?_ ih
    obtain ⟨h1, h2⟩ := h
    by_cases e : p.1 = k
    · rw [if_pos e, if_pos (h1.symm.trans e)]; exact ⟨h1, ry⟩
    · rw [if_neg e, if_neg (fun z => e (h1.trans z))]; exact ⟨h1, h2⟩
theorem KV.put {kvs : List (κ × V)} {vs : List (κ × Value)} (r : KV kvs vs) (k : κ) {y : V} {u : Value} (ry : RelV y u) : KV (putK kvs k y) (stored vs k u) := by
  unfold putK stored
  rw [r.any k]
  by_cases e : (vs.any fun kv => decide (kv.1 = k)) = true
  · rw [if_pos e, if_pos e]; exact r.repl k ry
  · rw [if_neg e, if_neg e]; exact Paired.snoc r ⟨rfl, ry⟩
theorem KV.drop {kvs : List (κ × V)} {vs : List (κ × Value)} (r : KV kvs vs) (k : κ) : KV (dropK kvs k) (without vs k) := by
  unfold KV at r ⊢
  unfold dropK without
  induction r with
  | nil => exact .nil
  | @cons p q ps qs h t ih =>
    obtain ⟨h1, h2⟩ := h
    rw [List.filter_cons, List.filter_cons]
    by_cases e : p.1 = k
    · have a : ¬ decide (p.1 ≠ k) = true := by simp [e]
      have b : ¬ decide (q.1 ≠ k) = true := by simp [h1.symm.trans e]
      rw [if_neg a, if_neg b]; exact ih
    · have e' : ¬ q.1 = k := fun z => e (h1.trans z)
      have a : decide (p.1 ≠ k) = true := by simp [e]
      have b : decide (q.1 ≠ k) = true := by simp [e']
      rw [if_pos a, if_pos b]; exact .cons ⟨h1, h2⟩ ih
theorem KV.keys {kvs : List (κ × V)} {vs : List (κ × Value)} (r : KV kvs vs) : kvs.map (·.1) = vs.map (·.1) := by
  unfold KV at r
  induction r with
  | nil => rfl
  | cons h t ih => rw [List.map_cons, List.map_cons, ih, h.1]
theorem KV.length {kvs : List (κ × V)} {vs : List (κ × Value)} (r : KV kvs vs) : kvs.length = vs.length := Paired.length r
theorem dropK_le (kvs : List (κ × V)) (k : κ) : (dropK kvs k).length ≤ kvs.length := List.length_filter_le _ _
end


/-! ### a tracked dict, its keys ints and texts or tuples of these -/
theorem kV_is {P : Program} {w : World} {k : Key} {u : Value} (r : RelV (kV k) u) : (mixKind P w).is k u = true := by
  cases k with
  | inl i => obtain ⟨t, e⟩ := (show ∃ t, u = Value.int i t from r); subst e; exact mixKind_int P w i t
  | inr x => obtain ⟨t, e⟩ := (show ∃ t, u = Value.str x t from r); subst e; exact mixKind_str P w x t
theorem kV_inj {a b : Key} (e : kV a = kV b) : a = b := by
  cases a with
  | inl i => cases b with
    | inl j => have e' : V.int i = V.int j := e; injection e' with e'; rw [e']
    | inr y => exact nomatch (show V.int i = V.str y from e)
  | inr x => cases b with
    | inl j => exact nomatch (show V.str x = V.int j from e)
    | inr y => have e' : V.str x = V.str y := e; injection e' with e'; rw [e']
theorem kVs_inj : ∀ {a b : List Key}, a.map kV = b.map kV → a = b
  | [], [], _ => rfl
  | [], _ :: _, e => by simp at e
  | _ :: _, [], e => by simp at e
  | x :: xs, y :: ys, e => by
    rw [List.map_cons, List.map_cons] at e
    injection e with e1 e2
    rw [kV_inj e1, kVs_inj e2]
theorem items_are {P : Program} {w : World} : ∀ {ks : List Key} {us : List Value}, Vals (ks.map kV) us → ItemsAre (mixKind P w) ks us
  | [], _, r => by rw [List.map_nil] at r; cases r; exact .nil
  | k :: ks, _, r => by
    rw [List.map_cons] at r
    cases r with
    | cons h t => exact .cons (kV_is h) (items_are t)

/-- raw entries of a dict with tuple keys -/
abbrev KT (H : Hp) : List (List Key × V) → List (List Key × Addr × Value) → Prop := Paired fun p q => p.1 = q.1 ∧ H q.2.1 = some (.tup (p.1.map kV)) ∧ RelV p.2 q.2.2
theorem KT.val {H : Hp} {kvs : List (List Key × V)} {xs : List (List Key × Addr × Value)} (r : KT H kvs xs) (k : List Key) : RelO (valV kvs k) ((atKey xs k).map (·.2)) := by
  induction r with
  | nil => exact True.intro
  | @cons p q ps qs h t ih =>
    obtain ⟨h1, _, h2⟩ := h
    by_cases e : p.1 = k
    · have e' : q.1 = k := h1.symm.trans e
      have b : atKey (q :: qs) k = some q.2 := by simp [atKey, List.find?_cons, e']
      rw [valV_pos e, b]; exact h2
    · have e' : ¬ q.1 = k := fun z => e (h1.trans z)
      have b : atKey (q :: qs) k = atKey qs k := by simp [atKey, List.find?_cons, e']
      rw [valV_neg e, b]; exact ih
theorem KT.repl {H : Hp} {kvs : List (List Key × V)} {xs : List (List Key × Addr × Value)} (r : KT H kvs xs) (k : List Key) {y : V} {u : Value} (ry : RelV y u) :
    KT H (kvs.map fun kv => if kv.1 = k then (kv.1, y) else kv) (xs.map (putAt k u)) := by
  induction r with
  | nil => exact .nil
  | @cons p q ps qs h t ih =>
    rw [List.map_cons, List.map_cons]
    refine .cons ?_ ih
    obtain ⟨h1, h2, h3⟩ := h
    unfold putAt
    by_cases e : p.1 = k
    · rw [if_pos e, if_pos (h1.symm.trans e)]; exact ⟨h1, h2, ry⟩
    · rw [if_neg e, if_neg (fun z => e (h1.trans z))]; exact ⟨h1, h2, h3⟩
theorem KT.put {H : Hp} {kvs : List (List Key × V)} {xs : List (List Key × Addr × Value)} (r : KT H kvs xs) (k : List Key) {b : Addr} {y : V} {u : Value} (hb : H b = some (.tup (k.map kV))) (ry : RelV y u) :
    KT H (putK kvs k y) (storedH xs k b u) := by
  have e : (kvs.any fun kv => decide (kv.1 = k)) = (atKey xs k).isSome := by
    rw [valV_any, (r.val k).isSome_eq, Option.isSome_map]
  unfold putK storedH
  rw [e]
  by_cases q : (atKey xs k).isSome = true
  · rw [if_pos q, if_pos q]; exact r.repl k ry
  · rw [if_neg q, if_neg q]; exact Paired.snoc r ⟨rfl, hb, ry⟩
theorem KT.keeps {H H' : Hp} {kvs : List (List Key × V)} {xs : List (List Key × Addr × Value)} (r : KT H kvs xs) (ht : ∀ b ys, H b = some (.tup ys) → H' b = some (.tup ys)) : KT H' kvs xs :=
  Paired.mapP r fun _ _ z => ⟨z.1, ht _ _ z.2.1, z.2.2⟩

section
variable {P : Program} {w : World} {H : Hp} {h : Heap} {a : Addr}
theorem rd_of {u : HO} (ok : HOk P w H h) (e : Rd H a u) : ObjOk P w H h a u := e.ok ok
theorem dk_rd {kvs : List (Key × V)} (ok : HOk P w H h) (e : Rd H a (.dK kvs)) : kvs.length ≤ sizeLine ∧ (a == sysModules) = false ∧ ∃ vs, KV kvs vs ∧ h.DictOf (mixKind P w) a vs :=
  show ObjOk P w H h a (.dK kvs) from rd_of ok e
theorem dk_of {kvs : List (Key × V)} (ok : HOk P w H h) (e : H a = some (.dK kvs)) : kvs.length ≤ sizeLine ∧ (a == sysModules) = false ∧ ∃ vs, KV kvs vs ∧ h.DictOf (mixKind P w) a vs := dk_rd ok (.inl e)
/-- a tracked tuple of ints and texts is a key -/
theorem key_of {ks : List Key} (ok : HOk P w H h) (e : H a = some (.tup (ks.map kV))) : (tupleKind (mixKind P w)).is h ks a := by
  obtain ⟨_, its, r, o, h1, h2, n, h3⟩ := (show ObjOk P w H h a (.tup (ks.map kV)) from ok a _ e)
  exact ⟨o, its.toArray, n, h1, h2, h3, by simpa using items_are r⟩
theorem dt_rd {kvs : List (List Key × V)} (ok : HOk P w H h) (e : Rd H a (.dT kvs)) : kvs.length ≤ sizeLine ∧ (a == sysModules) = false ∧
    ∃ xs, KT H kvs xs ∧ h.DictOfH (tupleKind (mixKind P w)) a xs := by
  obtain ⟨z, y, xs, r, o, es, ep, h1, h2, h3, h4, h5⟩ := (show ObjOk P w H h a (.dT kvs) from rd_of ok e)
  refine ⟨z, y, xs, r, o, es, ep, h1, h2, h3, h4, fun x hx => ?_, h5⟩
  have all : ∀ {l : List (List Key × V)} {m : List (List Key × Addr × Value)}, KT H l m → ∀ x ∈ m, (tupleKind (mixKind P w)).is h x.1 x.2.1 := by
    intro l m q
    induction q with
    | nil => intro x hx; exact nomatch hx
    | @cons p q ps qs hq t ih =>
      intro x hx
      rcases List.mem_cons.mp hx with e | hx
      · subst e
        exact key_of ok (by rw [← hq.1]; exact hq.2.1)
      · exact ih x hx
  exact all r x hx
theorem dt_of {kvs : List (List Key × V)} (ok : HOk P w H h) (e : H a = some (.dT kvs)) : kvs.length ≤ sizeLine ∧ (a == sysModules) = false ∧
    ∃ xs, KT H kvs xs ∧ h.DictOfH (tupleKind (mixKind P w)) a xs := dt_rd ok (.inl e)
end

/-- what the dict at a holds at the key y -/
def DGet (H : Hp) (a : Addr) (y : V) (r : Option V) : Prop :=
  (∃ kvs k, Rd H a (.dK kvs) ∧ y = kV k ∧ r = valV kvs k) ∨ ∃ kvs k b, Rd H a (.dT kvs) ∧ y = .ref b ∧ H b = some (.tup (k.map kV)) ∧ r = valV kvs k
/-- the heap behind a[y] = v -/
def DPut (H : Hp) (a : Addr) (y v : V) (H' : Hp) : Prop :=
  (∃ kvs k, H a = some (.dK kvs) ∧ y = kV k ∧ kvs.length < sizeLine ∧ H' = upd H a (.dK (putK kvs k v))) ∨
  ∃ kvs k b, H a = some (.dT kvs) ∧ y = .ref b ∧ H b = some (.tup (k.map kV)) ∧ kvs.length < sizeLine ∧ H' = upd H a (.dT (putK kvs k v))
theorem DGet.k {H : Hp} {a : Addr} {kvs : List (Key × V)} {k : Key} (e : H a = some (.dK kvs)) : DGet H a (kV k) (valV kvs k) := .inl ⟨kvs, k, .inl e, rfl, rfl⟩
theorem DGet.t {H : Hp} {a b : Addr} {kvs : List (List Key × V)} {k : List Key} (e : H a = some (.dT kvs)) (eb : H b = some (.tup (k.map kV))) : DGet H a (.ref b) (valV kvs k) := .inr ⟨kvs, k, b, .inl e, rfl, eb, rfl⟩
theorem DPut.k {H : Hp} {a : Addr} {kvs : List (Key × V)} {k : Key} {v : V} (e : H a = some (.dK kvs)) (hl : kvs.length < sizeLine) : DPut H a (kV k) v (upd H a (.dK (putK kvs k v))) := .inl ⟨kvs, k, e, rfl, hl, rfl⟩
theorem DPut.t {H : Hp} {a b : Addr} {kvs : List (List Key × V)} {k : List Key} {v : V} (e : H a = some (.dT kvs)) (eb : H b = some (.tup (k.map kV))) (hl : kvs.length < sizeLine) :
    DPut H a (.ref b) v (upd H a (.dT (putK kvs k v))) := .inr ⟨kvs, k, b, e, rfl, eb, hl, rfl⟩


section
variable {X : Cx} {pins : List (Addr × Obj)} {σ : St} {H : Hp} {s : Shared} {a : Addr} {y v : V} {u r : Value} {o : Option V} {A : Around} {E : Value → Shared → Prop}

theorem Inv.big (I : Inv X pins σ H s) : sysModules < s.heap.objs.size := by
  have h : mainGlobals < s.heap.objs.size := (I.mod.glob.keeps I.bk).lt
  exact Nat.lt_trans (by decide) h

/-- d[y], there -/
theorem d_getItem {Q : Value → Shared → Prop} (hu : A.units + 1 < cLine) (I : Inv X pins σ H s) (g : DGet H a y (some v)) (ry : RelV y u) (h : ∀ w' s', Inv X pins σ H s' → RelV v w' → Q w' s') :
    wpAny (model X.prog X.w) A (getItem (.ref a) u) Q E s := by
  rcases g with ⟨kvs, k, e, ey, l⟩ | ⟨kvs, k, b, e, ey, eb, l⟩
  · subst ey
    obtain ⟨z, hd, vs, rel, dd⟩ := dk_rd I.hok e
    obtain ⟨w', hw, rw'⟩ := RelO.some_of (v := v) (o := valueAt vs k) (by rw [l]; exact rel.val k)
    exact wpAny_getItem_of (kV_is ry) dd.mapOf hw (h w' _ (I.tok _) rw')
  · subst ey
    cases (show u = Value.ref b from ry)
    obtain ⟨z, hd, xs, rel, dd⟩ := dt_rd I.hok e
    obtain ⟨w', hw, rw'⟩ := RelO.some_of (v := v) (o := (atKey xs k).map (·.2)) (by rw [l]; exact rel.val k)
    obtain ⟨p, hp, hp2⟩ := Option.map_eq_some_iff.mp hw
    refine wpAny_getItem_heap (tupleKind_room_in1 hu) (key_of I.hok eb) dd hp ?_
    rw [hp2]
    exact h w' _ (I.tok _) rw'
/-- y in d -/
theorem d_in {Q : Value → Shared → Prop} (hu : A.units + 1 < cLine) (I : Inv X pins σ H s) (g : DGet H a y o) (ry : RelV y u) (h : ∀ s', Inv X pins σ H s' → Q (.bool o.isSome) s') :
    wpAny (model X.prog X.w) A (compareOp .In u (.ref a)) Q E s := by
  rcases g with ⟨kvs, k, e, ey, l⟩ | ⟨kvs, k, b, e, ey, eb, l⟩
  · subst ey
    obtain ⟨z, hd, vs, rel, dd⟩ := dk_rd I.hok e
    refine wpAny_in_of (kV_is ry) hd dd.mapOf ?_
    rw [← (rel.val k).isSome_eq, ← l]
    exact h _ (I.tok _)
  · subst ey
    cases (show u = Value.ref b from ry)
    obtain ⟨z, hd, xs, rel, dd⟩ := dt_rd I.hok e
    refine wpAny_in_heap (tupleKind_room_in1 hu) (key_of I.hok eb) hd dd ?_
    have q := (rel.val k).isSome_eq
    rw [Option.isSome_map] at q
    rw [← q, ← l]
    exact h _ (I.tok _)
theorem d_notIn {Q : Value → Shared → Prop} (hu : A.units + 1 < cLine) (I : Inv X pins σ H s) (g : DGet H a y o) (ry : RelV y u) (h : ∀ s', Inv X pins σ H s' → Q (.bool (!o.isSome)) s') :
    wpAny (model X.prog X.w) A (compareOp .NotIn u (.ref a)) Q E s := by
  rcases g with ⟨kvs, k, e, ey, l⟩ | ⟨kvs, k, b, e, ey, eb, l⟩
  · subst ey
    obtain ⟨z, hd, vs, rel, dd⟩ := dk_rd I.hok e
    refine wpAny_notIn_of (kV_is ry) hd dd.mapOf ?_
    rw [← (rel.val k).isSome_eq, ← l]
    exact h _ (I.tok _)
  · subst ey
    cases (show u = Value.ref b from ry)
    obtain ⟨z, hd, xs, rel, dd⟩ := dt_rd I.hok e
    refine wpAny_notIn_heap (tupleKind_room_in1 hu) (key_of I.hok eb) hd dd ?_
    have q := (rel.val k).isSome_eq
    rw [Option.isSome_map] at q
    rw [← q, ← l]
    exact h _ (I.tok _)
/-- a dict's object is replaced -/
theorem d_write {h' : Heap} {t' : Nat} {ob : HO} (I : Inv X pins σ H s) (mu : Mut (H a)) (hs : Heap.SameBut a s.heap h') (he : ∃ q, h'.get? a = some q) (new : ObjOk X.prog X.w (upd H a ob) h' a ob) :
    Inv X pins σ (upd H a ob) { s with heap := h', toks := t' } :=
  I.write (x := a) (e := a) mu (.inl rfl) (fun b q hb z => (hs.2 b hb).trans z) he new
theorem dk_new {P : Program} {w : World} {H' : Hp} {h' : Heap} {kvs : List (Key × V)} {vs : List (Key × Value)} (z : kvs.length ≤ sizeLine) (hd : (a == sysModules) = false) (rel : KV kvs vs) (dd : h'.DictOf (mixKind P w) a vs) :
    ObjOk P w H' h' a (.dK kvs) := ⟨z, hd, vs, rel, dd⟩
/-- d[y] = v -/
theorem d_setItem {H' : Hp} {Q : Unit → Shared → Prop} (hu : A.units + 1 < cLine) (I : Inv X pins σ H s) (g : DPut H a y v H') (ry : RelV y u) (rv : RelV v r) (h : ∀ s', Inv X pins σ H' s' → Q () s') :
    wpAny (model X.prog X.w) A (setItem (.ref a) u r) Q E s := by
  rcases g with ⟨kvs, k, e, ey, l, eH⟩ | ⟨kvs, k, b, e, ey, eb, l, eH⟩
  · subst ey eH
    obtain ⟨z, hd, vs, rel, dd⟩ := dk_of I.hok e
    have hz : vs.length ≤ sizeLine := by rw [← rel.length]; exact z
    have hl : (putK kvs k v).length ≤ sizeLine := by have := length_putK kvs k v; omega
    refine wpAny_setItem_pairs (hsz := hz) (kV_is ry) dd fun h' dd' hs => h _ ?_
    have he : ∃ q, h'.get? a = some q := let ⟨q, _, _, hq, _⟩ := dd'; ⟨q, hq⟩
    exact d_write I (by rw [e]; exact True.intro) hs he (dk_new hl hd (rel.put k rv) dd')
  · subst ey eH
    cases (show u = Value.ref b from ry)
    obtain ⟨z, hd, xs, rel, dd⟩ := dt_of I.hok e
    have hz : xs.length ≤ sizeLine := by rw [← Paired.length rel]; exact z
    have hl : (putK kvs k v).length ≤ sizeLine := by have := length_putK kvs k v; omega
    refine wpAny_setItem_heap (hsz := hz) (tupleKind_room_in1 hu) (key_of I.hok eb) dd fun h' dd' hs => h _ ?_
    obtain ⟨q, es, ep, hq, h2, h3, h4, _, h5⟩ := dd'
    refine d_write I (by rw [e]; exact True.intro) hs ⟨q, hq⟩ ⟨hl, hd, _, (rel.put k eb rv).keeps fun c ys ec => ?_, q, es, ep, hq, h2, h3, h4, h5⟩
    rw [upd_ne (ne_of ec e (fun z => nomatch z))]
    exact ec
end

section
variable {X : Cx} {pins : List (Addr × Obj)} {σ : St} {H : Hp} {s : Shared} {a : Addr} {kvs : List (Key × V)} {k : Key} {u : Value} {A : Around} {E : Value → Shared → Prop}
/-- del d[k] -/
theorem d_delItem {Q : Unit → Shared → Prop} (I : Inv X pins σ H s) (e : H a = some (.dK kvs)) (ry : RelV (kV k) u) (l : (valV kvs k).isSome = true) (h : ∀ s', Inv X pins σ (upd H a (.dK (dropK kvs k))) s' → Q () s') :
    wpAny (model X.prog X.w) A (delItem (.ref a) u) Q E s := by
  obtain ⟨z, hd, vs, rel, dd⟩ := dk_of I.hok e
  refine wpAny_delItem_slot dd.typeIs (by decide) PySem.F.slot_dict_delitem
    (call_meetsIn PySem.F.slot_dict_delitem dd.typeIs PySem.F.entry_dict_delitem (PySem.F.args_dict_delitem_2 _ _) (meets_dict_delitem_pairs (mixKind X.prog X.w) a (kV_is ry)) ⟨vs, dd, by rw [← rel.length]; exact z, by rw [← (rel.val k).isSome_eq]; exact l, fun h' dd' hs => h _ ?_⟩)
  have he : ∃ q, h'.get? a = some q := let ⟨q, _, _, hq, _⟩ := dd'; ⟨q, hq⟩
  exact d_write I (by rw [e]; exact True.intro) hs he (dk_new (Nat.le_trans (dropK_le kvs k) z) hd (rel.drop k) dd')
/-- d.pop(k[, x]), there -/
theorem d_pop {v : V} {more : List Value} {Q : Value → Shared → Prop} (I : Inv X pins σ H s) (e : H a = some (.dK kvs)) (ry : RelV (kV k) u) (l : valV kvs k = some v) (hm : more = [] ∨ ∃ x, more = [x])
    (h : ∀ w' s', Inv X pins σ (upd H a (.dK (dropK kvs k))) s' → RelV v w' → Q w' s') : wpAny (model X.prog X.w) A (call (.builtin "dict.pop") (.ref a :: u :: more)) Q E s := by
  obtain ⟨z, hd, vs, rel, dd⟩ := dk_of I.hok e
  obtain ⟨w', hw, rw'⟩ := RelO.some_of (v := v) (o := valueAt vs k) (by rw [← l]; exact rel.val k)
  have hp : (keyPart u).isSome = true := by
    cases k with
    | inl i => obtain ⟨t, q⟩ := (show ∃ t, u = Value.int i t from ry); subst q; rfl
    | inr x => obtain ⟨t, q⟩ := (show ∃ t, u = Value.str x t from ry); subst q; rfl
  have ha : argsOk "dict.pop" ⟨.ref a :: u :: more, []⟩ := by
    rcases hm with q | ⟨x, q⟩
    · subst q; exact PySem.F.args_dict_pop_2 _ _
    · subst q; exact PySem.F.args_dict_pop_3 _ _ _
  refine call_meetsIn PySem.F.slot_dict_pop dd.typeIs PySem.F.entry_dict_pop ha (meets_dict_pop_there (mixKind X.prog X.w) a (kV_is ry) more hm hp)
    ⟨vs, w', dd, by rw [← rel.length]; exact z, hw, fun h' dd' hs => h w' _ ?_ rw'⟩
  have he : ∃ q, h'.get? a = some q := let ⟨q, _, _, hq, _⟩ := dd'; ⟨q, hq⟩
  exact d_write I (by rw [e]; exact True.intro) hs he (dk_new (Nat.le_trans (dropK_le kvs k) z) hd (rel.drop k) dd')
/-- d.pop(k, x), not there -/
theorem d_popD {r : Value} {Q : Value → Shared → Prop} (I : Inv X pins σ H s) (e : H a = some (.dK kvs)) (ry : RelV (kV k) u) (l : valV kvs k = none) (h : ∀ s', Inv X pins σ H s' → Q r s') :
    wpAny (model X.prog X.w) A (call (.builtin "dict.pop") [.ref a, u, r]) Q E s := by
  obtain ⟨z, hd, vs, rel, dd⟩ := dk_of I.hok e
  have hn : valueAt vs k = none := RelO.none_of (by rw [← l]; exact rel.val k)
  have hp : (keyPart u).isSome = true := by
    cases k with
    | inl i => obtain ⟨t, q⟩ := (show ∃ t, u = Value.int i t from ry); subst q; rfl
    | inr x => obtain ⟨t, q⟩ := (show ∃ t, u = Value.str x t from ry); subst q; rfl
  exact call_meetsIn PySem.F.slot_dict_pop dd.typeIs PySem.F.entry_dict_pop (PySem.F.args_dict_pop_3 _ _ _) (meets_dict_pop_default (mixKind X.prog X.w) a (kV_is ry) hd hp r) ⟨vs, dd, hn, h _ (I.tok _)⟩
/-- d.clear() -/
theorem d_clear {Q : Value → Shared → Prop} (I : Inv X pins σ H s) (e : H a = some (.dK kvs)) (h : ∀ s', Inv X pins σ (upd H a (.dK [])) s' → Q .none s') : wpAny (model X.prog X.w) A (call (.builtin "dict.clear") [.ref a]) Q E s := by
  obtain ⟨z, hd, vs, rel, dd⟩ := dk_of I.hok e
  refine call_meetsIn PySem.F.slot_dict_clear dd.typeIs PySem.F.entry_dict_clear (PySem.F.args_dict_clear_1 _) (meets_dict_clear (mixKind X.prog X.w) a) ⟨vs, dd, by rw [← rel.length]; exact z, fun h' dd' hs => h _ ?_⟩
  have he : ∃ q, h'.get? a = some q := let ⟨q, _, _, hq, _⟩ := dd'; ⟨q, hq⟩
  exact d_write (t' := s.toks) I (by rw [e]; exact True.intro) hs he (dk_new (Nat.zero_le _) hd .nil dd')
/-- len(d) -/
theorem d_len {Q : Value → Shared → Prop} (I : Inv X pins σ H s) (e : Rd H a (.dK kvs)) (h : ∀ t s', Inv X pins σ H s' → Q (.int kvs.length t) s') : wpAny (model X.prog X.w) A (call (.builtin "len") [.ref a]) Q E s := by
  obtain ⟨z, hd, vs, rel, dd⟩ := dk_rd I.hok e
  refine call_len_dict hd dd (by rw [← rel.length]; rw [sizeLine_eq] at z; omega) ?_
  rw [← rel.length]
  exact h _ _ (I.tok _)
/-- if d -/
theorem d_truth {Q : Bool → Shared → Prop} (I : Inv X pins σ H s) (e : Rd H a (.dK kvs)) (h : ∀ s', Inv X pins σ H s' → Q (!kvs.isEmpty) s') : wpAny (model X.prog X.w) A (truthy (.ref a)) Q E s := by
  obtain ⟨z, hd, vs, rel, dd⟩ := dk_rd I.hok e
  refine wpAny_truthy_dict hd dd (by rw [← rel.length]; rw [sizeLine_eq] at z; omega) ?_
  have q : kvs.isEmpty = vs.isEmpty := by cases rel <;> rfl
  rw [← q]
  exact h _ (I.tok _)
end


/-! ### readings and rules -/
/-- the element of a subscription, not a slice -/
def NoSl (i : Expr) : Prop := ∀ ov iv, subscripted i false ov iv = operate [ov, iv] (getItem ov iv)
theorem subD_of {prog : Program} {w : World} {A : Around} {E : Value → Shared → Prop} {s : Shared} {env : Env} {value slice : Expr} {pos : Pos} {T id : String} {Q : Value → Shared → Prop}
    (hl : typeLookup (.type T) "__getitem__" = pure (some (.builtin id))) (hs : NoSl slice)
    (h : wpAny (model prog w) A (eval value env) (fun o s₁ => wpAny (model prog w) A (eval slice env) (fun i s₂ => s₂.TypeIs o T ∧ wpAny (model prog w) A (getItem o i) Q E s₂) E s₁) E s) :
    wpAny (model prog w) A (eval (.Subscript value slice pos) env) Q E s := by
  refine Subscript_ (wpAny_mono h (fun o s₁ h₁ => wpAny_mono h₁ (fun i s₂ h₂ => ?_) fun _ _ x => x) fun _ _ x => x)
  obtain ⟨hT, h₂⟩ := h₂
  unfold subscriptTail
  refine wpAny_bind ?_
  rw [getitemInPython_of_ne hT.not_modules]
  refine wpAny_bind (wpAny_specialOf hT hl ?_)
  have fin : wpAny (model prog w) A (subscripted slice false o i) (fun r s₃ => wpAny (model prog w) A (letTemporaryGo value o r >>= fun _ => pure r) Q E s₃) E s₂ := by
    rw [hs o i]
    exact wpAny_operating (wpAny_mono h₂ (fun r s₃ h₃ => wpAny_bind (wpAny_letTemporaryGo (wpAny_pure h₃))) fun _ _ x => x)
  first
    | exact wpAny_pure (wpAny_bind fin)
    | exact wpAny_bind (wpAny_pure (wpAny_bind fin))
    | exact wpAny_bind fin

theorem dict_typeIs {X : Cx} {pins : List (Addr × Obj)} {σ : St} {H : Hp} {s : Shared} {a : Addr} {y : V} {o : Option V} (I : Inv X pins σ H s) (g : DGet H a y o) : s.TypeIs (.ref a) "dict" := by
  rcases g with ⟨kvs, k, e, _, _⟩ | ⟨kvs, k, b, e, _, _, _⟩
  · obtain ⟨_, _, vs, _, dd⟩ := dk_rd I.hok e
    exact dd.typeIs
  · obtain ⟨_, _, xs, _, dd⟩ := dt_rd I.hok e
    exact dd.typeIs
theorem dict_noDict {X : Cx} {pins : List (Addr × Obj)} {σ : St} {H : Hp} {s : Shared} {a : Addr} {y : V} {o : Option V} (I : Inv X pins σ H s) (g : DGet H a y o) :
    ∀ b, Value.ref a = .ref b → ∃ ob, s.heap.get? b = some ob ∧ ob.dict = none := fun b q => by
  cases q
  rcases g with ⟨kvs, k, e, _, _⟩ | ⟨kvs, k, b, e, _, _, _⟩
  · obtain ⟨_, _, vs, _, ob, _, _, h1, h2, _⟩ := dk_rd I.hok e
    exact ⟨ob, h1, h2.2.1⟩
  · obtain ⟨_, _, xs, _, ob, _, _, h1, h2, _⟩ := dt_rd I.hok e
    exact ⟨ob, h1, h2.2.1⟩

/-- d[y] -/
def tDGet (td ty : TE) : TE := fun σ H Q => td σ H fun x H1 => ty σ H1 fun y H2 => ∃ a v, x = .ref a ∧ DGet H2 a y (some v) ∧ Q v H2
/-- y in d, y not in d -/
def tDIn (ty td : TE) : TE := fun σ H Q => ty σ H fun y H1 => td σ H1 fun x H2 => ∃ a o, x = .ref a ∧ DGet H2 a y o ∧ Q (.bl o.isSome) H2
def tDNotIn (ty td : TE) : TE := fun σ H Q => ty σ H fun y H1 => td σ H1 fun x H2 => ∃ a o, x = .ref a ∧ DGet H2 a y o ∧ Q (.bl (!o.isSome)) H2
/-- d[y] = v -/
def sDPut (td ty tv : TE) : TS := fun D σ H => tv σ H fun v H1 => td σ H1 fun x H2 => ty σ H2 fun y H3 => ∃ a H4, x = .ref a ∧ DPut H3 a y v H4 ∧ D.nx σ H4
/-- d[y] op= v -/
def sDAug (td ty tv : TE) (rd : V → V → Hp → VK → Prop) : TS := fun D σ H => td σ H fun x H1 => ty σ H1 fun y H2 => ∃ a v, x = .ref a ∧ DGet H2 a y (some v) ∧
  tv σ H2 fun y2 H3 => rd v y2 H3 fun z H4 => ∃ H5, DPut H4 a y z H5 ∧ D.nx σ H5
/-- del d[y] -/
def sDDel (td ty : TE) : TS := fun D σ H => td σ H fun x H1 => ty σ H1 fun y H2 => ∃ a kvs k, x = .ref a ∧ H2 a = some (.dK kvs) ∧ y = kV k ∧ (valV kvs k).isSome = true ∧ D.nx σ (upd H2 a (.dK (dropK kvs k)))

section
variable {X : Cx} {o i e value : Expr} {pos pos' tpos : Pos} {td ty tv : TE}
theorem pe_dget (hu : X.A.units + 1 < cLine) (ho : PE X o td) (hi : PE X i ty) (hs : NoSl i) : PE X (.Subscript o i pos) (tDGet td ty) := by
  intro pins s σ H Q I h
  refine subD_of PySem.F.slot_dict_getitem.lookup hs (thn (ho pins s σ H _ I h) fun u s1 ⟨x, H1, I1, rx, q1⟩ => thn (hi pins s1 σ H1 _ I1 q1) fun iv s2 ⟨y, H2, I2, ry, a, v, ex, g, q2⟩ => ?_)
  subst ex
  obtain rfl : u = Value.ref a := rx
  exact ⟨dict_typeIs I2 g, d_getItem hu I2 g ry fun w' s3 I3 rw' => ⟨v, H2, I3, rw', q2⟩⟩
theorem pc_din (hu : X.A.units + 1 < cLine) (hi : PE X i ty) (ho : PE X o td) : PC X .In i o (tDIn ty td) := by
  intro pins s σ H Q I h
  refine thn (hi pins s σ H _ I h) fun iv s1 ⟨y, H1, I1, ry, q1⟩ => thn (ho pins s1 σ H1 _ I1 q1) fun u s2 ⟨x, H2, I2, rx, a, ov, ex, g, q2⟩ => ?_
  subst ex
  obtain rfl : u = Value.ref a := rx
  exact d_in hu I2 g ry fun s3 I3 => ⟨.bl ov.isSome, H2, I3, rfl, q2⟩
theorem pc_dnotin (hu : X.A.units + 1 < cLine) (hi : PE X i ty) (ho : PE X o td) : PC X .NotIn i o (tDNotIn ty td) := by
  intro pins s σ H Q I h
  refine thn (hi pins s σ H _ I h) fun iv s1 ⟨y, H1, I1, ry, q1⟩ => thn (ho pins s1 σ H1 _ I1 q1) fun u s2 ⟨x, H2, I2, rx, a, ov, ex, g, q2⟩ => ?_
  subst ex
  obtain rfl : u = Value.ref a := rx
  exact d_notIn hu I2 g ry fun s3 I3 => ⟨.bl (!ov.isSome), H2, I3, rfl, q2⟩
theorem ps_dput (hu : X.A.units + 1 < cLine) (ho : PE X o td) (hi : PE X i ty) (hv : PE X value tv) (hs : swapsWith value (some (.Subscript o i pos')) pos.line X.env = pure false) :
    PS X (.Assign [.Subscript o i pos'] value pos) (sDPut td ty tv) := by
  intro pins s σ H D I h
  refine wpAny_Assign_Subscript (thn (hv pins s σ H _ I h) fun r s1 ⟨v, H1, I1, rv, q1⟩ => thn (ho pins s1 σ H1 _ I1 q1) fun u s2 ⟨x, H2, I2, rx, q2⟩ => thn (hi pins s2 σ H2 _ I2 q2) fun iv s3 ⟨y, H3, I3, ry, a, H4, ex, g, q3⟩ => ?_) hs
  subst ex
  obtain rfl : u = Value.ref a := rx
  exact d_setItem hu I3 g ry rv fun s4 I4 => ⟨σ, H4, I4, q3⟩
theorem ps_daug {op : Operator} {rd : V → V → Hp → VK → Prop} (hu : X.A.units + 1 < cLine) (ho : PE X o td) (hi : PE X i ty) (hv : PE X value tv) (hop : InOp X op rd)
    (ha : ∀ ov iv new, augStore i ov iv new = (do holding [new, ov, iv] (setItem ov iv new); release [new, ov, iv] []; pure .next)) : PS X (.AugAssign (.Subscript o i tpos) op value pos) (sDAug td ty tv rd) := by
  intro pins s σ H D I h
  refine wpAny_AugAssign_SubscriptAny (thn (ho pins s σ H _ I h) fun u s1 ⟨x, H1, I1, rx, q1⟩ => thn (hi pins s1 σ H1 _ I1 q1) fun iv s2 ⟨y, H2, I2, ry, a, v, ex, g, q2⟩ => ?_) ha
  subst ex
  obtain rfl : u = Value.ref a := rx
  refine d_getItem hu I2 g ry fun w' s3 I3 rw' => thn (hv pins s3 σ H2 _ I3 q2) fun w2 s4 ⟨y2, H3, I4, ry2, q3⟩ => thn (hop pins s4 σ H3 v y2 w' w2 _ I4 rw' ry2 q3) fun w3 s5 ⟨z, H4, I5, rz, H5, g5, q4⟩ => ?_
  exact d_setItem hu I5 g5 ry rz fun s6 I6 => ⟨σ, H5, I6, q4⟩
theorem ps_ddel (ho : PE X o td) (hi : PE X i ty) : PS X (.Delete [.Subscript o i tpos] pos) (sDDel td ty) := by
  intro pins s σ H D I h
  refine wpAny_Delete (wpAny_deleteEach_cons (wpAny_delete_Subscript (thn (ho pins s σ H _ I h) fun u s1 ⟨x, H1, I1, rx, q1⟩ => thn (hi pins s1 σ H1 _ I1 q1) fun iv s2 ⟨y, H2, I2, ry, a, kvs, k, ex, e, ey, l, q2⟩ => ?_)))
  subst ex ey
  obtain rfl : u = Value.ref a := rx
  exact d_delItem I2 e ry l fun s3 I3 => wpAny_deleteEach_nil ⟨σ, _, I3, q2⟩
end


/-! ### displays -/
theorem dk_empty {P : Program} {w : World} {H : Hp} (h : Heap) (hb : sysModules < h.objs.size) : ObjOk P w H (h.push { cls := .type "dict", data := .dict #[] }) h.objs.size (.dK []) :=
  ⟨Nat.zero_le _, beq_eq_false_iff_ne.mpr (Ne.symm (Nat.ne_of_lt hb)), [], .nil, Heap.DictOf.new h⟩
theorem dt_empty {P : Program} {w : World} {H : Hp} (h : Heap) (hb : sysModules < h.objs.size) : ObjOk P w H (h.push { cls := .type "dict", data := .dict #[] }) h.objs.size (.dT []) :=
  ⟨Nat.zero_le _, beq_eq_false_iff_ne.mpr (Ne.symm (Nat.ne_of_lt hb)), [], .nil, _, #[], 0, Heap.get?_push_size _ rfl, ⟨rfl, rfl, rfl⟩, rfl, rfl, List.nodup_nil⟩
/-- {}, to be a dict of the kind that is wanted -/
def tDNewK : TE := fun _ H Q => ∀ p, H p = none → Q (.ref p) (upd H p (.dK []))
def tDNewT : TE := fun _ H Q => ∀ p, H p = none → Q (.ref p) (upd H p (.dT []))
section
variable {X : Cx} {pos : Pos}
theorem pe_dnewK : PE X (.Dict [] [] pos) tDNewK := fun pins s σ H Q I h =>
  wpAny_Dict_empty ⟨.ref s.heap.objs.size, _, I.laid (a := s.heap.objs.size) (o := .dK []) (t' := s.toks) (fun _ _ q => Heap.get?_push_of_some _ q) (Nat.le_refl _) (dk_empty s.heap I.big), rfl, h _ (I.hok.fresh (Nat.le_refl _))⟩
theorem pe_dnewT : PE X (.Dict [] [] pos) tDNewT := fun pins s σ H Q I h =>
  wpAny_Dict_empty ⟨.ref s.heap.objs.size, _, I.laid (a := s.heap.objs.size) (o := .dT []) (t' := s.toks) (fun _ _ q => Heap.get?_push_of_some _ q) (Nat.le_refl _) (dt_empty s.heap I.big), rfl, h _ (I.hok.fresh (Nat.le_refl _))⟩
end

/-- the pairs of a display, from the left -/
def tPairs : List (TE × TE) → St → Hp → (List (V × V) → Hp → Prop) → Prop
  | [], _, H, Q => Q [] H
  | (tk, tv) :: r, σ, H, Q => tk σ H fun x H1 => tv σ H1 fun y H2 => tPairs r σ H2 fun ps H3 => Q ((x, y) :: ps) H3
abbrev VV : List (V × V) → List (Value × Value) → Prop := Paired fun p q => RelV p.1 q.1 ∧ RelV p.2 q.2
def PPs (X : Cx) (pos : Pos) (keys : List (Option Expr)) (values : List Expr) (trs : List (TE × TE)) : Prop :=
  ∀ (pins : List (Addr × Obj)) (s : Shared) (σ : St) (H : Hp) (Q : List (V × V) → Hp → Prop), Inv X pins σ H s → tPairs trs σ H Q →
    wpAny (model X.prog X.w) X.A (evalPairs (pairTrees keys values X.env pos)) (fun vs s' => ∃ ps H', Inv X pins σ H' s' ∧ VV ps vs ∧ Q ps H') X.xe s
theorem pps_nil {X : Cx} {pos : Pos} : PPs X pos [] [] [] := fun pins s σ H Q I h => pairTrees_nil_walk ⟨[], H, I, .nil, h⟩
theorem pps_cons {X : Cx} {pos : Pos} {k v : Expr} {ks : List (Option Expr)} {vs : List Expr} {tk tv : TE} {trs : List (TE × TE)} (hk : PE X k tk) (hv : PE X v tv) (hr : PPs X pos ks vs trs) :
    PPs X pos (some k :: ks) (v :: vs) ((tk, tv) :: trs) := fun pins s σ H Q I h =>
  pairTrees_cons_walk (thn (hk pins s σ H _ I h) fun u s1 ⟨x, H1, I1, rx, q1⟩ => thn (hv pins s1 σ H1 _ I1 q1) fun w2 s2 ⟨y, H2, I2, ry, q2⟩ =>
    thn (hr pins s2 σ H2 _ I2 q2) fun ws s3 ⟨ps, H3, I3, rel, q3⟩ => ⟨(x, y) :: ps, H3, I3, .cons ⟨rx, ry⟩ rel, q3⟩)

def mergeK (kvs more : List (Key × V)) : List (Key × V) := more.foldl (fun acc kv => putK acc kv.1 kv.2) kvs
theorem KV.merge : ∀ {more : List (Key × V)} {rs : List (Key × Value)} {kvs : List (Key × V)} {vs : List (Key × Value)}, KV more rs → KV kvs vs → KV (mergeK kvs more) (merged vs rs) := by
  intro more rs kvs vs r
  unfold KV at r
  induction r generalizing kvs vs with
  | nil => intro q; exact q
  | @cons p q ps qs h t ih =>
    intro r0
    have e : KV (putK kvs p.1 p.2) (stored vs q.1 q.2) := by
      have := r0.put p.1 h.2
      rw [← h.1]; exact this
    exact ih e
theorem length_mergeK : ∀ (more kvs : List (Key × V)), (mergeK kvs more).length ≤ kvs.length + more.length
  | [], kvs => by show kvs.length ≤ kvs.length + 0; omega
  | p :: r, kvs => by
    have h1 := length_mergeK r (putK kvs p.1 p.2)
    have h2 := length_putK kvs p.1 p.2
    show (mergeK (putK kvs p.1 p.2) r).length ≤ _
    rw [List.length_cons]; omega
theorem carries_of {P : Program} {w : World} : ∀ {kvs : List (Key × V)} {ws : List (Value × Value)}, VV (kvs.map fun kv => (kV kv.1, kv.2)) ws → ∃ rs, Carries (mixKind P w) ws rs ∧ KV kvs rs
  | [], _, r => by rw [List.map_nil] at r; cases r; exact ⟨[], True.intro, .nil⟩
  | p :: kvs, _, r => by
    rw [List.map_cons] at r
    cases r with
    | @cons a b as bs h t =>
      obtain ⟨rs, c, q⟩ := carries_of (P := P) (w := w) t
      obtain ⟨b1, b2⟩ := b
      exact ⟨(p.1, b2) :: rs, ⟨kV_is h.1, rfl, c⟩, .cons ⟨rfl, h.2⟩ q⟩
/-- {k: v, ..} with keys ints and texts; the new dict stands empty while the pairs are made -/
def tDisp (trs : List (TE × TE)) : TE := fun σ H Q => ∀ p, H p = none → tPairs trs σ (upd H p (.dK [])) fun ps H2 => H2 p = some (.dK []) ∧ ∃ kvs : List (Key × V), ps = kvs.map (fun kv => (kV kv.1, kv.2)) ∧ kvs.length ≤ 15 ∧ Q (.ref p) (upd H2 p (.dK (mergeK [] kvs)))
theorem pe_disp {X : Cx} {pos : Pos} {keys : List (Option Expr)} {values : List Expr} {trs : List (TE × TE)} (h : PPs X pos keys values trs) (hall : keys.all (·.isSome) = true) (hl : keys.length = values.length) (h0 : keys ≠ [])
    (h15 : keys.length ≤ 15) : PE X (.Dict keys values pos) (tDisp trs) := by
  intro pins s σ H Q I q
  have hn := I.hok.fresh (Nat.le_refl s.heap.objs.size)
  have I1 := I.laid (a := s.heap.objs.size) (o := .dK []) (h' := s.heap.push { cls := .type "dict", data := .dict #[] }) (t' := s.toks) (fun _ _ q => Heap.get?_push_of_some _ q) (Nat.le_refl _) (dk_empty s.heap I.big)
  refine wpAny_Dict_walk (knd := mixKind X.prog X.w) hall hl h0 h15 (thn (h pins _ σ _ _ I1 (q _ hn)) fun ws s2 ⟨ps, H2, I2, rel, e, kvs, ep, lk, q2⟩ => ?_)
  subst ep
  obtain ⟨rs, c, rk⟩ := carries_of (P := X.prog) (w := X.w) rel
  obtain ⟨z, hd, vs0, r0, dd⟩ := dk_of I2.hok e
  cases r0
  refine ⟨rs, c, dd, fun h' dd' hs => ⟨.ref s.heap.objs.size, _, ?_, rfl, q2⟩⟩
  have hz : (mergeK [] kvs).length ≤ sizeLine := by
    have h1 := length_mergeK kvs []
    rw [List.length_nil] at h1
    rw [sizeLine_eq]; omega
  have he : ∃ q, h'.get? s.heap.objs.size = some q := let ⟨q, _, _, hq, _⟩ := dd'; ⟨q, hq⟩
  exact d_write I2 (by rw [e]; exact True.intro) hs he (dk_new hz hd (rk.merge .nil) dd')


/-! ### methods -/
/-- a method call o.m(e) of a built-in, with one argument: what must be seen of the text -/
structure M1 (X : Cx) (o : Expr) (m : Str) (apos : Pos) (e : Expr) (cpos : Pos) : Prop where
  base : attributeBase o m X.env (eval o X.env) = eval o X.env
  few : ((backTo cpos (starEach [e] X.env)).all (fun x => !x.1) && (backToKw cpos (keywordEach [] X.env)).all (fun x => x.1.isSome)
    && decide (([e] : List Expr).length + ([] : List Keyword).length + (if ([] : List Keyword).isEmpty then 0 else 1) < 30)) = true
  line : (apos.endLine == cpos.line) = true
  trees : backTo cpos (starEach [e] X.env) = [(false, eval e X.env)]
structure M2 (X : Cx) (o : Expr) (m : Str) (apos : Pos) (e f : Expr) (cpos : Pos) : Prop where
  base : attributeBase o m X.env (eval o X.env) = eval o X.env
  few : ((backTo cpos (starEach [e, f] X.env)).all (fun x => !x.1) && (backToKw cpos (keywordEach [] X.env)).all (fun x => x.1.isSome)
    && decide (([e, f] : List Expr).length + ([] : List Keyword).length + (if ([] : List Keyword).isEmpty then 0 else 1) < 30)) = true
  line : (apos.endLine == cpos.line) = true
  trees : backTo cpos (starEach [e, f] X.env) = [(false, eval e X.env), (false, eval f X.env)]

/-- a is a dict, whatever its keys -/
def IsD (H : Hp) (a : Addr) : Prop := (∃ kvs, Rd H a (.dK kvs)) ∨ ∃ kvs, Rd H a (.dT kvs)
theorem isD_at {X : Cx} {pins : List (Addr × Obj)} {σ : St} {H : Hp} {s : Shared} {a : Addr} (I : Inv X pins σ H s) (d : IsD H a) :
    s.TypeIs (.ref a) "dict" ∧ (∀ b, Value.ref a = .ref b → ∃ ob, s.heap.get? b = some ob ∧ ob.dict = none) ∧ (a == sysModules) = false := by
  rcases d with ⟨kvs, e⟩ | ⟨kvs, e⟩
  · obtain ⟨_, hd, vs, _, dd⟩ := dk_rd I.hok e
    refine ⟨dd.typeIs, fun b q => ?_, hd⟩
    cases q
    obtain ⟨ob, _, _, h1, h2, _⟩ := dd
    exact ⟨ob, h1, h2.2.1⟩
  · obtain ⟨_, hd, xs, _, dd⟩ := dt_rd I.hok e
    refine ⟨dd.typeIs, fun b q => ?_, hd⟩
    cases q
    obtain ⟨ob, _, _, h1, h2, _⟩ := dd
    exact ⟨ob, h1, h2.2.1⟩

section
variable {X : Cx} {pins : List (Addr × Obj)} {σ : St} {H : Hp} {s : Shared} {a : Addr} {y d : V} {u r : Value} {o : Option V} {A : Around} {E : Value → Shared → Prop}
/-- d.get(y) -/
theorem d_get1 {Q : Value → Shared → Prop} (hu : A.units + 1 < cLine) (I : Inv X pins σ H s) (g : DGet H a y o) (ry : RelV y u) (h : ∀ w' s', Inv X pins σ H s' → RelV (o.getD .non) w' → Q w' s') :
    wpAny (model X.prog X.w) A (call (.builtin "dict.get") [.ref a, u]) Q E s := by
  rcases g with ⟨kvs, k, e, ey, l⟩ | ⟨kvs, k, b, e, ey, eb, l⟩
  · subst ey
    obtain ⟨z, hd, vs, rel, dd⟩ := dk_rd I.hok e
    refine call_meetsIn PySem.F.slot_dict_get dd.typeIs PySem.F.entry_dict_get (PySem.F.args_dict_get_2 _ _) (meets_dict_get (mixKind X.prog X.w) a (kV_is ry) hd) ⟨_, dd.mapOf, h _ _ (I.tok _) ?_⟩
    rw [l]
    exact (rel.val k).getD rfl
  · subst ey
    cases (show u = Value.ref b from ry)
    obtain ⟨z, hd, xs, rel, dd⟩ := dt_rd I.hok e
    refine call_meetsIn PySem.F.slot_dict_get dd.typeIs PySem.F.entry_dict_get (PySem.F.args_dict_get_2 _ _) (meetsH_dict_get (tupleKind (mixKind X.prog X.w)) a b hd) ⟨tupleKind_room_in1 hu, k, xs, key_of I.hok eb, dd, h _ _ (I.tok _) ?_⟩
    rw [l]
    exact (rel.val k).getD rfl
/-- d.get(y, x) -/
theorem d_get2 {Q : Value → Shared → Prop} (hu : A.units + 1 < cLine) (I : Inv X pins σ H s) (g : DGet H a y o) (ry : RelV y u) (rd : RelV d r) (h : ∀ w' s', Inv X pins σ H s' → RelV (o.getD d) w' → Q w' s') :
    wpAny (model X.prog X.w) A (call (.builtin "dict.get") [.ref a, u, r]) Q E s := by
  rcases g with ⟨kvs, k, e, ey, l⟩ | ⟨kvs, k, b, e, ey, eb, l⟩
  · subst ey
    obtain ⟨z, hd, vs, rel, dd⟩ := dk_rd I.hok e
    refine call_meetsIn PySem.F.slot_dict_get dd.typeIs PySem.F.entry_dict_get (PySem.F.args_dict_get_3 _ _ _) (meets_dict_get_default (mixKind X.prog X.w) a (kV_is ry) hd r) ⟨_, dd.mapOf, h _ _ (I.tok _) ?_⟩
    rw [l]
    exact (rel.val k).getD rd
  · subst ey
    cases (show u = Value.ref b from ry)
    obtain ⟨z, hd, xs, rel, dd⟩ := dt_rd I.hok e
    refine call_meetsIn PySem.F.slot_dict_get dd.typeIs PySem.F.entry_dict_get (PySem.F.args_dict_get_3 _ _ _) (meetsH_dict_get_default (tupleKind (mixKind X.prog X.w)) a b hd r) ⟨tupleKind_room_in1 hu, k, xs, key_of I.hok eb, dd, h _ _ (I.tok _) ?_⟩
    rw [l]
    exact (rel.val k).getD rd
end

def tDGet1 (td ty : TE) : TE := fun σ H Q => td σ H fun x H1 => ∃ a, x = .ref a ∧ IsD H1 a ∧ ty σ H1 fun y H2 => ∃ o, DGet H2 a y o ∧ Q (o.getD .non) H2
def tDGet2 (td ty tx : TE) : TE := fun σ H Q => td σ H fun x H1 => ∃ a, x = .ref a ∧ IsD H1 a ∧ ty σ H1 fun y H2 => tx σ H2 fun z H3 => ∃ o, DGet H3 a y o ∧ Q (o.getD z) H3
/-- d.pop(k): there; d.pop(k, x): there or not -/
def tDPop1 (td ty : TE) : TE := fun σ H Q => td σ H fun x H1 => ∃ a, x = .ref a ∧ IsD H1 a ∧ ty σ H1 fun y H2 => ∃ kvs k v, H2 a = some (.dK kvs) ∧ y = kV k ∧ valV kvs k = some v ∧ Q v (upd H2 a (.dK (dropK kvs k)))
def tDPop2 (td ty tx : TE) : TE := fun σ H Q => td σ H fun x H1 => ∃ a, x = .ref a ∧ IsD H1 a ∧ ty σ H1 fun y H2 => tx σ H2 fun z H3 => ∃ kvs k, H3 a = some (.dK kvs) ∧ y = kV k ∧
  (∀ v, valV kvs k = some v → Q v (upd H3 a (.dK (dropK kvs k)))) ∧ (valV kvs k = none → Q z H3)
section
variable {X : Cx} {o e f : Expr} {apos cpos : Pos} {td ty tx : TE}
theorem pe_dget1 (hu : X.A.units + 1 < cLine) (ho : PE X o td) (he : PE X e ty) (m : M1 X o "get" apos e cpos) : PE X (.Call (.Attribute o "get" apos) [e] [] cpos) (tDGet1 td ty) := by
  intro pins s σ H Q I h
  refine wpAny_Call_method m.base m.few m.line PySem.F.plainAttrs_dict PySem.F.slot_dict_get PySem.F.type_dict_get (thn (ho pins s σ H _ I h) fun u s1 ⟨x, H1, I1, rx, a, ex, d, q1⟩ => ?_)
  subst ex
  obtain rfl : u = Value.ref a := rx
  obtain ⟨t1, t2, _⟩ := isD_at I1 d
  refine ⟨t1, t2, ?_⟩
  rw [m.trees]
  refine Calls.callWith_builtin rfl (Calls.evalArgs_plain (Calls.spliced_cons (thn (he pins s1 σ H1 _ I1 q1) fun iv s2 ⟨y, H2, I2, ry, ov, g, q2⟩ => Calls.spliced_nil ?_)))
  exact d_get1 hu I2 g ry fun w' s3 I3 rw' => ⟨_, H2, I3, rw', q2⟩
theorem pe_dget2 (hu : X.A.units + 1 < cLine) (ho : PE X o td) (he : PE X e ty) (hf : PE X f tx) (m : M2 X o "get" apos e f cpos) : PE X (.Call (.Attribute o "get" apos) [e, f] [] cpos) (tDGet2 td ty tx) := by
  intro pins s σ H Q I h
  refine wpAny_Call_method m.base m.few m.line PySem.F.plainAttrs_dict PySem.F.slot_dict_get PySem.F.type_dict_get (thn (ho pins s σ H _ I h) fun u s1 ⟨x, H1, I1, rx, a, ex, d, q1⟩ => ?_)
  subst ex
  obtain rfl : u = Value.ref a := rx
  obtain ⟨t1, t2, _⟩ := isD_at I1 d
  refine ⟨t1, t2, ?_⟩
  rw [m.trees]
  refine Calls.callWith_builtin rfl (Calls.evalArgs_plain (Calls.spliced_cons (thn (he pins s1 σ H1 _ I1 q1) fun iv s2 ⟨y, H2, I2, ry, q2⟩ =>
    Calls.spliced_cons (thn (hf pins s2 σ H2 _ I2 q2) fun fv s3 ⟨z, H3, I3, rz, ov, g, q3⟩ => Calls.spliced_nil ?_))))
  exact d_get2 hu I3 g ry rz fun w' s4 I4 rw' => ⟨_, H3, I4, rw', q3⟩
theorem pe_dpop1 (ho : PE X o td) (he : PE X e ty) (m : M1 X o "pop" apos e cpos) : PE X (.Call (.Attribute o "pop" apos) [e] [] cpos) (tDPop1 td ty) := by
  intro pins s σ H Q I h
  refine wpAny_Call_method m.base m.few m.line PySem.F.plainAttrs_dict PySem.F.slot_dict_pop PySem.F.type_dict_pop (thn (ho pins s σ H _ I h) fun u s1 ⟨x, H1, I1, rx, a, ex, d, q1⟩ => ?_)
  subst ex
  obtain rfl : u = Value.ref a := rx
  obtain ⟨t1, t2, _⟩ := isD_at I1 d
  refine ⟨t1, t2, ?_⟩
  rw [m.trees]
  refine Calls.callWith_builtin rfl (Calls.evalArgs_plain (Calls.spliced_cons (thn (he pins s1 σ H1 _ I1 q1) fun iv s2 ⟨y, H2, I2, ry, kvs, k, v, ea, ey, l, q2⟩ => Calls.spliced_nil ?_)))
  subst ey
  exact d_pop I2 ea ry l (.inl rfl) fun w' s3 I3 rw' => ⟨v, _, I3, rw', q2⟩
theorem pe_dpop2 (ho : PE X o td) (he : PE X e ty) (hf : PE X f tx) (m : M2 X o "pop" apos e f cpos) : PE X (.Call (.Attribute o "pop" apos) [e, f] [] cpos) (tDPop2 td ty tx) := by
  intro pins s σ H Q I h
  refine wpAny_Call_method m.base m.few m.line PySem.F.plainAttrs_dict PySem.F.slot_dict_pop PySem.F.type_dict_pop (thn (ho pins s σ H _ I h) fun u s1 ⟨x, H1, I1, rx, a, ex, d, q1⟩ => ?_)
  subst ex
  obtain rfl : u = Value.ref a := rx
  obtain ⟨t1, t2, _⟩ := isD_at I1 d
  refine ⟨t1, t2, ?_⟩
  rw [m.trees]
  refine Calls.callWith_builtin rfl (Calls.evalArgs_plain (Calls.spliced_cons (thn (he pins s1 σ H1 _ I1 q1) fun iv s2 ⟨y, H2, I2, ry, q2⟩ =>
    Calls.spliced_cons (thn (hf pins s2 σ H2 _ I2 q2) fun fv s3 ⟨z, H3, I3, rz, kvs, k, ea, ey, q3, q4⟩ => Calls.spliced_nil ?_))))
  subst ey
  cases l : valV kvs k with
  | some v => exact d_pop I3 ea ry l (.inr ⟨fv, rfl⟩) fun w' s4 I4 rw' => ⟨v, _, I4, rw', q3 v l⟩
  | none => exact d_popD I3 ea ry l fun s4 I4 => ⟨z, H3, I4, rz, q4 l⟩
end

/-! ### dict(d): a copy -/
section
variable {X : Cx} {pins : List (Addr × Obj)} {σ : St} {H : Hp} {s : Shared} {a : Addr} {kvs : List (Key × V)} {A : Around} {E : Value → Shared → Prop}
theorem d_copyOf {Q : Value → Shared → Prop} (I : Inv X pins σ H s) (e : Rd H a (.dK kvs)) (h : ∀ p s', H p = none → Inv X pins σ (upd H p (.dK kvs)) s' → Q (.ref p) s') : wpAny (model X.prog X.w) A (call (.type "dict") [.ref a]) Q E s := by
  obtain ⟨z, hd, vs, rel, dd⟩ := dk_rd I.hok e
  refine kt_call_dict hd dd (by rw [← rel.length]; exact z) fun h' dd' hs => ?_
  refine h _ _ (I.hok.fresh (Nat.le_refl _)) (I.laid (a := s.heap.objs.size) (o := .dK kvs) (t' := s.toks) (fun b q hq => ?_) (Nat.le_refl _) (dk_new z (beq_eq_false_iff_ne.mpr (Ne.symm (Nat.ne_of_lt I.big))) rel dd'))
  exact (hs.2 b (Nat.ne_of_lt (Heap.lt_size hq))).trans (Heap.get?_push_of_some _ hq)
end


section
variable {X : Cx} {pins : List (Addr × Obj)} {σ : St} {H : Hp} {s : Shared} {a : Addr} {y : V} {u : Value} {A : Around} {E : Value → Shared → Prop}
/-- d[y], not there: a KeyError -/
theorem d_missing {Q : Value → Shared → Prop} (hu : A.units + 1 < cLine) (hh : A.handled = none) (I : Inv X pins σ H s) (g : DGet H a y none) (ry : RelV y u)
    (h : ∀ h' e t', Heap.NewExc s.heap h' e "KeyError" → E (.ref e) { s with heap := h', toks := t' }) : wpAny (model X.prog X.w) A (getItem (.ref a) u) Q E s := by
  rcases g with ⟨kvs, k, e, ey, l⟩ | ⟨kvs, k, b, e, ey, eb, l⟩
  · subst ey
    obtain ⟨z, hd, vs, rel, dd⟩ := dk_rd I.hok e
    have hn : valueAt vs k = none := RelO.none_of (by rw [l]; exact rel.val k)
    exact wpAny_getItem_missing_of (kV_is ry) hd hh dd.mapOf hn fun h' ex ne => h h' ex _ ne
  · subst ey
    cases (show u = Value.ref b from ry)
    obtain ⟨z, hd, xs, rel, dd⟩ := dt_rd I.hok e
    have hn : (atKey xs k).map (·.2) = none := RelO.none_of (by rw [l]; exact rel.val k)
    exact wpAny_getItem_missing_heap (tupleKind_room_in1 hu) (key_of I.hok eb) hd hh dd (Option.map_eq_none_iff.mp hn) fun h' ex ne => h h' ex _ ne
end
end L2

namespace L2
open PySem PySem.Spec PyProof.Rows
section
variable {X : Cx} {pins : List (Addr × Obj)} {σ : St} {H : Hp} {s : Shared} {a b : Addr} {A : Around} {E : Value → Shared → Prop}
/-- d.update(e) -/
theorem d_update {Q : Value → Shared → Prop} {kvs more : List (Key × V)} (I : Inv X pins σ H s) (hab : a ≠ b) (ha : H a = some (.dK kvs)) (hb : H b = some (.dK more)) (hz : kvs.length + more.length ≤ sizeLine)
    (h : ∀ s', Inv X pins σ (upd H a (.dK (mergeK kvs more))) s' → Q .none s') : wpAny (model X.prog X.w) A (call (.builtin "dict.update") [.ref a, .ref b]) Q E s := by
  obtain ⟨za, da, vs, rel, dd⟩ := dk_of I.hok ha
  obtain ⟨zb, db, ws, rel2, dd2⟩ := dk_of I.hok hb
  refine call_meetsIn PySem.F.slot_dict_update dd.typeIs PySem.F.entry_dict_update (PySem.F.args_dict_update_2 _ _) (meets_dict_update (mixKind X.prog X.w) a b hab db) ⟨vs, ws, dd, dd2, by rw [← rel.length, ← rel2.length]; exact hz, fun h' d1 d2 hs => h _ ?_⟩
  have he : ∃ q, h'.get? a = some q := let ⟨q, _, _, hq, _⟩ := d1; ⟨q, hq⟩
  exact d_write I (by rw [ha]; exact True.intro) hs he (dk_new (Nat.le_trans (length_mergeK more kvs) hz) da (rel2.merge rel) d1)
end
def tDUpd (td ty : TE) : TE := fun σ H Q => td σ H fun x H1 => ∃ a, x = .ref a ∧ IsD H1 a ∧ ty σ H1 fun y H2 => ∃ b kvs more, y = .ref b ∧ a ≠ b ∧ H2 a = some (.dK kvs) ∧ H2 b = some (.dK more) ∧ kvs.length + more.length ≤ sizeLine ∧
  Q .non (upd H2 a (.dK (mergeK kvs more)))
section
variable {X : Cx} {o e : Expr} {td ty : TE} {apos cpos : Pos}
theorem pe_dupd (ho : PE X o td) (he : PE X e ty) (m : M1 X o "update" apos e cpos) : PE X (.Call (.Attribute o "update" apos) [e] [] cpos) (tDUpd td ty) := by
  intro pins s σ H Q I h
  refine wpAny_Call_method m.base m.few m.line PySem.F.plainAttrs_dict PySem.F.slot_dict_update PySem.F.type_dict_update (thn (ho pins s σ H _ I h) fun u s1 ⟨x, H1, I1, rx, a, ex, d, q1⟩ => ?_)
  subst ex
  obtain rfl : u = Value.ref a := rx
  obtain ⟨t1, t2, _⟩ := isD_at I1 d
  refine ⟨t1, t2, ?_⟩
  rw [m.trees]
  refine Calls.callWith_builtin rfl (Calls.evalArgs_plain (Calls.spliced_cons (thn (he pins s1 σ H1 _ I1 q1) fun iv s2 ⟨y, H2, I2, ry, b, kvs, more, ey, hab, ha, hb, hz, q2⟩ => Calls.spliced_nil ?_)))
  subst ey
  obtain rfl : iv = Value.ref b := ry
  exact d_update I2 hab ha hb hz fun s3 I3 => ⟨.non, _, I3, rfl, q2⟩
end
end L2

namespace L2
open PySem PySem.Spec PyProof.Rows
/-! ### the getting of an exception's attributes -/
theorem ga_plain : plainId gaBE = true := by decide +kernel
theorem ga_kind : builtinKind gaBE = some Manifest.AttrKind.slot := by kernel_rfl
theorem ga_split : splitId gaBE = some ("BaseException", "__getattribute__") := by kernel_rfl
theorem ga_args (a b : Value) : argsOk gaBE { pos := [a, b] } := by kernel_rfl
theorem ga_bind (self : Value) : bindSpecial (.builtin gaBE) self = pure (.builtin gaBE, [self]) := by kernel_rfl
theorem ga_entry : entryFor table gaBE = some Builtin.«object.__getattribute__» := by kernel_rfl
end L2

namespace L2
open PySem PySem.Spec PyProof.Rows L3
section
variable {prog : Program} {w : World} {A : Around} {E : Value → Shared → Prop} {s : Shared} {K : PySem.W.Frag} {x C : Addr} {ox : Obj} {od : Option Obj} {name : Str} {tk : Tok}
/-- the getter is found and called -/
theorem ga_open {fill expr : Bool} {Q : Value → Shared → Prop} (X : K.In s.heap) (I : W.InstAt s.heap x ox C od) (hga : W.findIn K (.ref C) (Str.ofString "__getattribute__") = some (some (.builtin gaBE))) (hgt : W.findIn K (.ref C) (Str.ofString "__getattr__") = some none)
    (hbe : W.mroIn K C (.type "BaseException") = some true)
    (h : wpAny (model prog w) A.in1 (Builtin.«object.__getattribute__» { pos := [.ref x, .str name tk] }) (fun fin s' => ∃ v, fin = Fin.done (Flow.ret v) ∧ wpAny (model prog w) A (handedOut v) Q E s') (fun _ _ => False) s) :
    wpAny (model prog w) A (getAttrBy (.ref x) (.str name tk) fill expr) Q E s := by
  have L0 := W.InstAt.type (M := model prog w) I
  have L1 := W.looks_findIn (M := model prog w) X hga
  have L2 := W.looks_findIn (M := model prog w) X hgt
  unfold getAttrBy
  refine wpAny_holding (wpAny_bind (L0.here (wpAny_bind (L1.here ?_))))
  show wpAny (model prog w) A (if (onTheHeap (.ref C) && (Value.builtin gaBE == Value.builtin "object.__getattribute__")) = true then _ else getAttrByItsOwn (.ref x) (.str name tk) (.ref C) (.builtin gaBE) fill expr) Q E s
  have e1 : (onTheHeap (.ref C) && (Value.builtin gaBE == Value.builtin "object.__getattribute__")) = false := by
    show (true && (Value.builtin gaBE == Value.builtin "object.__getattribute__")) = false
    decide +kernel
  rw [e1, if_neg Bool.false_ne_true]
  unfold getAttrByItsOwn
  refine wpAny_bind (L2.here ?_)
  refine wpAny_bind (wpAny_attempt (wpAny_holding ?_))
  have ec : callGetattribute (.ref x) (.str name tk) (.builtin gaBE) expr = boundAndCalled (.builtin gaBE) (.ref x) (.str name tk) := by
    unfold callGetattribute
    rw [if_neg (by cases expr <;> decide)]
  rw [ec]
  unfold boundAndCalled
  rw [ga_bind]
  refine wpAny_bind (wpAny_pure ?_)
  show wpAny (model prog w) A (call (.builtin gaBE) [.ref x, .str name tk]) _ _ s
  have sub : W.Looks (model prog w) s.heap (isInstance (.ref x) (.type "BaseException")) true := W.Looks.andThen (W.InstAt.type I) (W.looks_mroIn X hbe)
  have h5 := ga_args (.ref x) (.str name tk)
  refine wpAny_call ?_
  refine codeAny_call_builtin ga_plain ga_entry ?_
  refine wpAny_mono (@W.check_slot (model prog w) A.in1 (fun _ _ => False) s gaBE "BaseException" "__getattribute__" (.ref x) [.str name tk] [] (fun _ s₁ => s₁ = s) ga_kind ga_split sub h5 rfl) (fun _ s1 e => ?_) fun _ _ z => False.elim z
  subst e
  refine wpAny_mono h (fun fin s' z => ?_) fun _ _ z => False.elim z
  obtain ⟨v, e, z⟩ := z
  subst e
  exact z
/-- the body of it -/
theorem ga_body {Q : Value → Shared → Prop} {r : Builtin.ObjectAttr.Found} (X : K.In s.heap) (I : W.InstAt s.heap x ox C od) (hf : W.findObj K C od name = some r)
    (h : wpAny (model prog w) A (match r with
        | Builtin.ObjectAttr.Found.value v => ret v
        | Builtin.ObjectAttr.Found.bind g a => Builtin.ObjectAttr.bindTo g a (.ref x) (.ref C)
        | Builtin.ObjectAttr.Found.missing => unsupported "no") (fun fin s' => ∃ v, fin = Fin.done (Flow.ret v) ∧ Q v s') (fun _ _ => False) s) (hr : r ≠ .missing) :
    wpAny (model prog w) A (Builtin.«object.__getattribute__» { pos := [.ref x, .str name tk] }) (fun fin s' => ∃ v, fin = Fin.done (Flow.ret v) ∧ Q v s') (fun _ _ => False) s := by
  have L0 := W.InstAt.type (M := model prog w) I
  have L1 := W.looks_find (M := model prog w) X I hf
  refine wpAny_bind (wpAny_pure ?_)
  refine wpAny_bind (wpAny_pure ?_)
  refine wpAny_bind (L0.here (wpAny_bind (L1.here ?_)))
  cases r with
  | value v => exact h
  | bind g a => exact h
  | missing => exact absurd rfl hr
end
end L2

namespace L2
open PySem PySem.Spec PyProof.Rows L3
/-! ### attributes of an exception -/
theorem own_VE : classOwn (Value.type "ValueError") (Str.ofString "__setattr__") = pure none := by kernel_rfl
theorem own_E : classOwn (Value.type "Exception") (Str.ofString "__setattr__") = pure none := by kernel_rfl
theorem own_BE : classOwn (Value.type "BaseException") (Str.ofString "__setattr__") = pure none := by kernel_rfl
theorem onlyExc_refs : ∀ {l : List Value}, onlyExc l = true → ∃ as : List Addr, l = as.map Value.ref ++ bmVE
  | [], h => by cases h
  | v :: r, h => by
    cases v with
    | ref a =>
      obtain ⟨as, e⟩ := onlyExc_refs (l := r) h
      exact ⟨a :: as, by rw [e]; rfl⟩
    | type a =>
      have h' : (a == "ValueError" && (r == [.type "Exception", .type "BaseException", .type "object"])) = true := h
      rw [Bool.and_eq_true] at h'
      refine ⟨[], ?_⟩
      rw [eq_of_beq h'.1, eq_of_beq h'.2]
      rfl
    | _ => cases h
theorem refuse_exc (self : Value) : ∀ as : List Addr, refuseLoop self (Str.ofString "__setattr__") (as.map Value.ref ++ bmVE) = pure ()
  | [] => by
    have e := W.refuse_only self (l := [.type "object"]) rfl
    show refuseLoop self (Str.ofString "__setattr__") [.type "ValueError", .type "Exception", .type "BaseException", .type "object"] = pure ()
    unfold refuseLoop at e ⊢
    simp only [List.forIn_cons, own_VE, own_E, own_BE, pure_bind, Option.isSome_none, Bool.false_eq_true, if_false] at e ⊢
    exact e
  | a :: as => by
    have e := refuse_exc self as
    rw [List.map_cons, List.cons_append]
    unfold refuseLoop at e ⊢
    rw [List.forIn_cons]
    simp only [pure_bind]
    exact e
section
variable {prog : Program} {w : World} {A : Around} {K : PySem.W.Frag} {C x : Addr} {s : Shared} {ox : Obj} {od : Option Obj} {name : Str} {tk : Tok} {v : Value}
theorem osa_openX {R : Result → Shared → Prop} {cd : ClassData} (X : K.In s.heap) (I : W.InstAt s.heap x ox C od) (hc : W.clsIn K C = some cd) (ho : onlyExc cd.mro = true) (ha : W.findIn K (.ref C) name = some none)
    (h : wpAny (model prog w) A.in1 (Builtin.ObjectAttr.storeInOwnDict (.ref x) (.ref C) (.str name tk) name v false)
      (fun fin s' => match fin with | Fin.done f => R (Except.ok f) s' | Fin.again c' => c'.quiet = true ∧ codeAny (model prog w) A c' R s') (fun e s' => R (Except.error e) s') s) :
    codeAny (model prog w) A (Code.call (.builtin "object.__setattr__") { pos := [.ref x, .str name tk, v] }) R s := by
  have SF := F.store_object
  obtain ⟨as, em⟩ := onlyExc_refs ho
  have ne : cd.mro.isEmpty = false := by rw [em]; cases as <;> rfl
  have hob : cd.mro.contains (.type "object") = true := by rw [em, List.contains_eq_mem]; exact decide_eq_true (List.mem_append_right _ (by simp))
  have sub : W.Looks (model prog w) s.heap (isInstance (.ref x) (.type "object")) true := W.Looks.andThen (W.InstAt.type I) (W.looks_mroIn X (by
    unfold W.mroIn
    rw [hc, Option.bind_some, if_neg (by rw [ne]; exact Bool.false_ne_true), hob]))
  have hm : W.Looks (model prog w) s.heap (mroOf (.ref C)) cd.mro := W.Looks.andThen (W.looks_clsIn X hc) W.Looks.now
  have h1 := SF.slot.plain
  have h2 := SF.entry
  have h3 := SF.kind
  have h4 := SF.split
  have h5 := SF.args (.ref x) (.str name tk) v
  have goal : wpAny (model prog w) A.in1 (Builtin.«object.__setattr__» { pos := [Value.ref x, Value.str name tk, v] })
      (fun fin s' => match fin with | Fin.done f => R (Except.ok f) s' | Fin.again c' => c'.quiet = true ∧ codeAny (model prog w) A c' R s') (fun e s' => R (Except.error e) s') s := by
    rw [W.osa_eq, refuse_eq]
    refine wpAny_bind (wpAny_bind (W.Looks.here (W.InstAt.type I) (wpAny_bind (W.Looks.here hm ?_))))
    rw [em, refuse_exc]
    exact wpAny_pure (wpAny_bind (W.Looks.here (W.InstAt.type I) (wpAny_bind (W.Looks.here (W.looks_findIn X ha) (wpAny_bind (wpAny_pure h))))))
  refine codeAny_call_builtin h1 h2 ?_
  exact @W.check_slot (model prog w) A.in1 (fun e s' => R (Except.error e) s') s "object.__setattr__" "object" "__setattr__" (.ref x) [.str name tk, v] [] (fun _ s₁ => wpAny (model prog w) A.in1 (Builtin.«object.__setattr__» { pos := [Value.ref x, Value.str name tk, v] })
      (fun fin s' => match fin with | Fin.done f => R (Except.ok f) s' | Fin.again c' => c'.quiet = true ∧ codeAny (model prog w) A c' R s') (fun e s' => R (Except.error e) s') s₁) h3 h4 sub h5 goal
/-- x.name = v of an exception that has no dict yet -/
theorem set_exc0 {vs : Array Value} {sl : Array (Option Value)} {cd : ClassData} {Q : Unit → Shared → Prop} {E : Value → Shared → Prop} (X : K.In s.heap) (hx : s.heap.get? x = some ⟨.ref C, none, .fields vs, sl⟩)
    (hs : W.findIn K (.ref C) "__setattr__" = some (some (.builtin "object.__setattr__"))) (hc : W.clsIn K C = some cd) (ho : onlyExc cd.mro = true) (hd : cd.hasDict = true) (ha : W.findIn K (.ref C) name = some none)
    (h : ∀ h', h'.get? x = some ⟨.ref C, some s.heap.objs.size, .fields vs, sl⟩ → h'.Ns1 s.heap.objs.size (fun y => if y = name then some v else none) → (∀ b o, b ≠ x → s.heap.get? b = some o → h'.get? b = some o) → Q () { s with heap := h', toks := s.toks + 2 }) :
    wpAny (model prog w) A (setAttr (.ref x) name v) Q E s := by
  have J : W.InstAt s.heap x ⟨.ref C, none, .fields vs, sl⟩ C none := ⟨hx, rfl, rfl, True.intro⟩
  have nx : x ≠ s.heap.objs.size := Nat.ne_of_lt (Heap.lt_size hx)
  refine PySem.W.set_plain X J hs (osa_openX (s := { s with toks := s.toks + 1 }) X J hc ho ha ?_)
  refine wpAny_bind (wpAny_pure (wpAny_bind (wpAny_bind (wpAny_loadPart hx (wpAny_bind (PySem.W.Looks.here (s := { s with toks := s.toks + 1 }) (PySem.W.looks_clsIn X hc) ?_))))))
  rw [hd]
  refine wpAny_bind (wpAny_alloc (wpAny_bind ?_))
  have x1 : (s.heap.push { cls := .type "dict", data := .dict #[] }).get? x = some ⟨.ref C, none, .fields vs, sl⟩ := Heap.get?_push_of_some _ hx
  refine wpAny_update x1 ?_
  refine wpAny_pure (a := some s.heap.objs.size) (wpAny_bind (wpAny_pure (wpAny_bind ?_)))
  have d1 : (s.heap.push { cls := .type "dict", data := .dict #[] }).get? s.heap.objs.size = some { cls := .type "dict", data := .dict #[] } := Heap.get?_push_size _ rfl
  generalize hh1 : (s.heap.push { cls := .type "dict", data := .dict #[] }).update x (fun o => { cls := o.cls, dict := some s.heap.objs.size, data := o.data, slots := o.slots }) = h1
  have x2 : h1.get? x = some ⟨.ref C, some s.heap.objs.size, .fields vs, sl⟩ := by rw [← hh1]; exact Heap.get?_update_self _ x1 rfl
  have d2 : h1.get? s.heap.objs.size = some { cls := .type "dict", data := .dict #[] } := by rw [← hh1, Heap.get?_update_other _ _ nx]; exact d1
  have n2 : h1.Ns1 s.heap.objs.size (fun _ => none) := ⟨_, _, _, d2, rfl, fun e he => absurd he (by simp), List.Pairwise.nil, fun _ => rfl⟩
  refine wpAny_nsSet1 (s := { s with heap := h1, toks := s.toks + 1 }) n2 fun h' hn2 hs2 => ?_
  have wi : PySem.Within (fun _ : Str => (none : Option Value)) [] := fun g hg => absurd rfl hg
  obtain ⟨oD, esD, epD, hoD, hdD, hcD⟩ := hn2.count (PySem.Within.cons name v wi)
  refine wpAny_bind (wpAny_lookBehind hoD (by rw [hdD]; exact pastItsLine_dict (Nat.le_trans hcD (by show 1 ≤ sizeLine + 1; decide))) ?_)
  refine wpAny_pure (h _ ((hs2.2 _ nx).trans x2) hn2 fun b o nb e => ?_)
  have nd : b ≠ s.heap.objs.size := Nat.ne_of_lt (Heap.lt_size e)
  rw [hs2.2 _ nd]
  show h1.get? b = some o
  rw [← hh1, Heap.get?_update_other _ _ (Ne.symm nb)]
  exact Heap.get?_push_of_some _ e
/-- x.name = v of an exception that has its dict -/
theorem set_exc1 {vs : Array Value} {sl : Array (Option Value)} {cd : ClassData} {dx : Addr} {mA : Str → Option Value} {ns : List Str} {Q : Unit → Shared → Prop} {E : Value → Shared → Prop} (X : K.In s.heap) (hx : s.heap.get? x = some ⟨.ref C, some dx, .fields vs, sl⟩)
    (hn : s.heap.Ns1 dx mA) (hw : PySem.Within mA ns) (hsz : ns.length ≤ sizeLine)
    (hs : W.findIn K (.ref C) "__setattr__" = some (some (.builtin "object.__setattr__"))) (hc : W.clsIn K C = some cd) (ho : onlyExc cd.mro = true) (hd : cd.hasDict = true) (ha : W.findIn K (.ref C) name = some none)
    (h : ∀ h', h'.Ns1 dx (fun y => if y = name then some v else mA y) → Heap.SameBut dx s.heap h' → Q () { s with heap := h', toks := s.toks + 2 }) :
    wpAny (model prog w) A (setAttr (.ref x) name v) Q E s := by
  obtain ⟨od, ho1, hl⟩ := lookIn_ns hn
  have J : W.InstAt s.heap x ⟨.ref C, some dx, .fields vs, sl⟩ C (some od) := ⟨hx, rfl, rfl, ho1⟩
  refine PySem.W.set_plain X J hs (osa_openX (s := { s with toks := s.toks + 1 }) X J hc ho ha ?_)
  refine wpAny_bind (wpAny_pure (wpAny_bind (wpAny_bind (wpAny_loadPart hx (wpAny_bind (PySem.W.Looks.here (s := { s with toks := s.toks + 1 }) (PySem.W.looks_clsIn X hc) ?_))))))
  rw [hd]
  refine wpAny_pure (a := some dx) (wpAny_bind (wpAny_pure (wpAny_bind ?_)))
  refine wpAny_nsSet1 (s := { s with toks := s.toks + 1 }) hn fun h' hn2 hs2 => ?_
  obtain ⟨oD, esD, epD, hoD, hdD, hcD⟩ := hn2.count (PySem.Within.cons name v hw)
  refine wpAny_bind (wpAny_lookBehind hoD (by rw [hdD]; exact pastItsLine_dict (Nat.le_trans hcD (by rw [List.length_cons]; omega))) ?_)
  exact wpAny_pure (h _ hn2 hs2)
/-- x.name of an exception -/
theorem get_exc {vs : Array Value} {sl : Array (Option Value)} {dx : Addr} {mA : Str → Option Value} {expr : Bool} {Q : Value → Shared → Prop} {E : Value → Shared → Prop} (X : K.In s.heap) (hx : s.heap.get? x = some ⟨.ref C, some dx, .fields vs, sl⟩)
    (hn : s.heap.Ns1 dx mA) (hga : W.findIn K (.ref C) (Str.ofString "__getattribute__") = some (some (.builtin gaBE))) (hgt : W.findIn K (.ref C) (Str.ofString "__getattr__") = some none) (hbe : W.mroIn K C (.type "BaseException") = some true)
    (hh : PySem.W.hasDictIn K C = true) (ha : PySem.W.findIn K (.ref C) name = some none) (hv : mA name = some v) (hv' : PySem.W.handedIn v = true) (h : Q v { s with toks := s.toks + 1 }) :
    wpAny (model prog w) A (getAttr (.ref x) name expr) Q E s := by
  obtain ⟨od, ho1, hl⟩ := lookIn_ns hn
  have J : W.InstAt s.heap x ⟨.ref C, some dx, .fields vs, sl⟩ C (some od) := ⟨hx, rfl, rfl, ho1⟩
  have hf := PySem.W.findObj_own hh ha rfl (show W.lookIn name od = some (some v) by rw [hl, hv])
  unfold getAttr
  refine wpAny_bind (wpAny_mkText (ga_open (s := { s with toks := s.toks + 1 }) X J hga hgt hbe (ga_body (s := { s with toks := s.toks + 1 }) (r := .value v) X J hf (wpAny_pure ⟨v, rfl, W.handed_on hv' h⟩) (by intro z; cases z))))
end
end L2

namespace L2
open PySem PySem.Spec PyProof.Rows L3
def XClsI (K : PySem.W.Frag) (C : Addr) : Prop := excInI K C bmVE "ValueError.__new__" = true
theorem XClsI.at {K : PySem.W.Frag} {C : Addr} {h : Heap} (x : XClsI K C) (X : K.In h) : ∃ oi, XAt h C oi := by
  unfold XClsI excInI at x
  split at x
  · rename_i dd cd sl ho
    split at x
    · rename_i C' bm k0 k1 k2 k3 n k5 hm hs
      simp only [Bool.and_eq_true, beq_iff_eq, Bool.not_eq_true'] at x
      obtain ⟨⟨⟨⟨e1, e2⟩, hdel⟩, ht⟩, hok⟩ := x
      subst e1 e2
      obtain ⟨nm, bs, mro, ns, qn, hd, sn, sub, ab, col, del⟩ := cd
      dsimp only at hm hdel hok
      subst hm hdel
      have hsl : sl = #[k0, k1, k2, k3, some (.builtin "ValueError.__new__"), k5] := by
        obtain ⟨l⟩ := sl
        exact congrArg Array.mk hs
      subst hsl
      exact ⟨_, nm, qn, ns, bs, bm, hd, sn, sub, ab, col, dd, k0, k1, k2, k3, k5, _, X _ _ ho, .of_isNs (PySem.W.isNs_of_in X hok), rfl, PySem.W.tail_of_in X ht⟩
    · cases x
  · cases x
section
variable {prog : Program} {w : World} {A : Around} {E : Value → Shared → Prop} {h : Heap} {g : Array GenState} {d : Drawn} {t : Nat} {os : OsState} {C f : Addr}
theorem exc_madeI {us : List Value} {Q : Fin → Shared → Prop} {oi : Option Value} (x : XAt h C oi) (hz : us.length ≤ sizeLine)
    (hl : ∀ h', (∀ b o, h.get? b = some o → h'.get? b = some o) → W.Looks (model prog w) h' (typeLookup (.ref C) "__init__") (some (.ref f)))
    (hb : ∀ h' self, (∀ b o, h.get? b = some o → h'.get? b = some o) → W.Looks (model prog w) h' (bindSpecial (.ref f) self) (.ref f, [self]))
    (hq : wpAny (model prog w) A (call (.ref f) (.ref (h.objs.size + 1) :: us)) (fun v s' => v = .none ∧ Q (.done (.ret (.ref (h.objs.size + 1)))) s') E ⟨(h.push (argT us)).push (newX C h.objs.size), g, d, t, os⟩) :
    wpAny (model prog w) A (Builtin.«type.__call__» ⟨.ref C :: us, []⟩) Q E ⟨h, g, d, t, os⟩ := by
  obtain ⟨nm, q, N, bs, bm, hdct, sn, sub, ab, col, dd, k0, k1, k2, k3, k5, mN, hC, hN, hi, T⟩ := x
  have Fv := PySem.F.excBase_ValueError
  repeat (first | (with_reducible refine wpAny_loadPart_at hC ?_) | (with_reducible refine wpAny_madeBy_exc hC ?_) | wp_step)
  refine codeAny_call_builtin_code (Code.quiet_builtin _ Fv.quiet) (wpAny_check_new_subU Fv rfl T hC (codeAny_exc_new_subU Fv rfl Fv T hC ?_ hz))
  show wpAny _ _ _ _ _ _
  have kk : ∀ b o, h.get? b = some o → ((h.push { cls := .type "tuple", data := .seq us.toArray }).push { cls := .ref C, data := .fields #[.ref h.objs.size, .none, .none, .none, .bool false, .none] }).get? b = some o := fun b o z => Heap.get?_push_of_some _ (Heap.get?_push_of_some _ z)
  have c1 := kk _ _ hC
  have ge : ((h.push { cls := .type "tuple", data := .seq us.toArray }).push { cls := .ref C, data := .fields #[.ref h.objs.size, .none, .none, .none, .bool false, .none] }).get? (h.objs.size + 1) = some { cls := .ref C, data := .fields #[.ref h.objs.size, .none, .none, .none, .bool false, .none] } := by heap_get
  have cc : (Value.ref C :: bm).contains (.ref C) = true := by simp
  unfold isInstance
  repeat (first | (with_reducible refine wpAny_loadPart_at ge ?_) | (with_reducible refine wpAny_isSubtype_exc c1 ?_; rw [cc]) | wp_step)
  show wpAny _ _ (typeLookup (.ref C) _) _ _ _
  refine (hl _ kk).at ?_
  refine wpAny_holding (wpAny_bind ((hb _ _ kk).at (wpAny_bind (wpAny_mono hq (fun v s' z => ?_) fun _ _ y => y))))
  obtain ⟨e, z⟩ := z
  subst e
  exact wpAny_pure (wpAny_pure z)
/-- C(..) of a class of errors with an __init__ of its own -/
theorem exc_callI {us : List Value} {Q : Value → Shared → Prop} {oi : Option Value} (x : XAt h C oi) (hz : us.length ≤ sizeLine)
    (hl : ∀ h', (∀ b o, h.get? b = some o → h'.get? b = some o) → W.Looks (model prog w) h' (typeLookup (.ref C) "__init__") (some (.ref f)))
    (hb : ∀ h' self, (∀ b o, h.get? b = some o → h'.get? b = some o) → W.Looks (model prog w) h' (bindSpecial (.ref f) self) (.ref f, [self]))
    (hq : wpAny (model prog w) (A.under (Code.builtin "type.__call__" ⟨.ref C :: us, []⟩)) (call (.ref f) (.ref (h.objs.size + 1) :: us)) (fun v s' => v = .none ∧ Q (.ref (h.objs.size + 1)) s') E ⟨(h.push (argT us)).push (newX C h.objs.size), g, d, t, os⟩) :
    wpAny (model prog w) A (call (.ref C) us) Q E ⟨h, g, d, t, os⟩ := by
  obtain ⟨nm, q, N, bs, bm, hdct, sn, sub, ab, col, dd, k0, k1, k2, k3, k5, mN, hC, r⟩ := id x
  have f1 := tc_lookup
  have f2 := tc_bind (.ref C)
  have hT : (⟨h, g, d, t, os⟩ : Shared).TypeIs (.ref C) "type" := ⟨_, hC, rfl⟩
  refine wpAny_call (codeAny_of_tree ?_)
  show wpAny _ _ (callAny (.ref C) _) _ _ _
  repeat (any_goals (first | assumption | (with_reducible refine wpAny_loadPart_at hC ?_) | wp_step))
  exact ⟨rfl, codeAny_call_builtin_at (Code.quiet_builtin _ (by decide +kernel)) entry_typeCall (wpAny_check_type_call_sub hC (exc_madeI x hz hl hb hq))⟩
end
end L2

namespace L2
open PySem PySem.Spec PyProof.Rows L3
/-- the dict of an exception, its attributes -/
def xdo (d : Addr) (fs : List (Str × V)) : HO := .ext fun h => fs.length ≤ 1000 ∧ ∃ mA, h.Ns1 d mA ∧ (∀ f, RelO (fs.lookup f) (mA f)) ∧ PySem.Within mA (fs.map (·.1))
theorem xdo_ok {P : Program} {w : World} {H : Hp} {h : Heap} {d : Addr} {fs : List (Str × V)} {mA : Str → Option Value} (l : fs.length ≤ 1000) (n : h.Ns1 d mA) (r : ∀ f, RelO (fs.lookup f) (mA f)) (wi : PySem.Within mA (fs.map (·.1))) : ObjOk P w H h d (xdo d fs) := by
  refine ⟨⟨l, mA, n, r, wi⟩, ?_, fun h1 h2 ⟨l, m, n, r⟩ k => ⟨l, m, ?_, r⟩⟩
  · obtain ⟨o, _, _, e, _⟩ := n
    exact ⟨o, e⟩
  · obtain ⟨o, es, ep, e, c⟩ := n
    exact ⟨o, es, ep, k _ e, c⟩
/-- an exception that is being made: its fields known -/
def exv (ea : Addr) (c : Value) (dd : Option Addr) (vs : Array Value) : HO := .ext fun h => ∃ o, h.get? ea = some o ∧ o.cls = c ∧ o.dict = dd ∧ o.data = .fields vs
theorem exv_ok {P : Program} {w : World} {H : Hp} {h : Heap} {ea : Addr} {c : Value} {dd : Option Addr} {vs : Array Value} {sl : Array (Option Value)} (e : h.get? ea = some ⟨c, dd, .fields vs, sl⟩) : ObjOk P w H h ea (exv ea c dd vs) :=
  ⟨⟨_, e, rfl, rfl, rfl⟩, ⟨_, e⟩, fun _ _ ⟨o, e, r⟩ k => ⟨o, k o e, r⟩⟩
/-- a thing is no longer tracked -/
def del (H : Hp) (a : Addr) : Hp := fun b => if b = a then none else H b
theorem del_same {H : Hp} {a : Addr} : del H a a = none := by unfold del; rw [if_pos rfl]
theorem del_ne {H : Hp} {a b : Addr} (h : b ≠ a) : del H a b = H b := by unfold del; rw [if_neg h]
theorem del_some {H : Hp} {a b : Addr} {o : HO} (h : del H a b = some o) : b ≠ a ∧ H b = some o := by
  unfold del at h
  split at h
  · cases h
  · rename_i n; exact ⟨n, h⟩
theorem del_none {H : Hp} {a b : Addr} (h : H b = none) : del H a b = none := by
  unfold del
  split
  · rfl
  · exact h
theorem Inv.del {X : Cx} {pins : List (Addr × Obj)} {σ : St} {H : Hp} {s : Shared} {a : Addr} {φ : Heap → Prop} (I : Inv X pins σ H s) (e : H a = some (.ext φ)) : Inv X pins σ (del H a) s := by
  refine ⟨I.ok, I.os, I.bare, ⟨I.base.keep, I.base.slot, fun b o q n hx => del_none (I.base.free b o q n hx), I.base.there, fun b xs q => ?_, fun b o u q => ?_, fun b ps q => ?_⟩, I.loc, I.cell, del_none I.free, fun x c q => del_none (I.freeC x c q), fun p hp => ?_, fun b u q => ?_, I.len⟩
  · have z := I.base.tups b xs q
    rw [del_ne (ne_of z e (by intro y; cases y))]; exact z
  · have z := I.base.frzs b o u q
    rw [del_ne (ne_of z e (by intro y; cases y))]; exact z
  · obtain ⟨m, z⟩ := I.base.tbls b ps q
    exact ⟨m, by rw [del_ne (ne_of z e (by intro y; cases y))]; exact z⟩
  · obtain ⟨z1, z2, z3⟩ := I.pin p hp
    exact ⟨z1, del_none z2, z3⟩
  · obtain ⟨nb, q⟩ := del_some q
    refine (I.hok b u q).stay (fun _ _ _ z => z) (fun c z => ?_) fun c xs z => ?_
    · rw [del_ne (ne_of z e (by intro y; cases y))]; exact z
    · rw [del_ne (ne_of z e (by intro y; cases y))]; exact z
/-- what a class of errors with fields must have -/
structure XF (K : PySem.W.Frag) (C : Addr) : Prop where
  sa : W.findIn K (.ref C) "__setattr__" = some (some (.builtin "object.__setattr__"))
  cd : ∃ cd, W.clsIn K C = some cd ∧ onlyExc cd.mro = true ∧ cd.hasDict = true
  ga : W.findIn K (.ref C) (Str.ofString "__getattribute__") = some (some (.builtin gaBE))
  gt : W.findIn K (.ref C) (Str.ofString "__getattr__") = some none
  be : W.mroIn K C (.type "BaseException") = some true
theorem XF.hd {K : PySem.W.Frag} {C : Addr} (x : XF K C) : PySem.W.hasDictIn K C = true := by
  obtain ⟨cd, h1, _, h2⟩ := x.cd
  unfold PySem.W.hasDictIn
  rw [h1]
  exact h2
section
variable {X : Cx} {pins : List (Addr × Obj)} {σ : St} {H : Hp} {s : Shared} {a C d : Addr} {fs : List (Str × V)} {f : Str} {v : V} {A : Around} {E : Value → Shared → Prop}
theorem exv_at {P : Program} {w : World} {h : Heap} {c : Value} {dd : Option Addr} {vs : Array Value} (ok : HOk P w H h) (e : H a = some (exv a c dd vs)) : ∃ sl, h.get? a = some ⟨c, dd, .fields vs, sl⟩ := by
  obtain ⟨⟨o, q, hc, hd, hv⟩, _⟩ := ok a _ e
  obtain ⟨c', d', dt, sl⟩ := o
  dsimp only at hc hd hv
  subst hc hd hv
  exact ⟨sl, q⟩
theorem exo_at {P : Program} {w : World} {h : Heap} {c : Value} {dd : Option Addr} (ok : HOk P w H h) (e : H a = some (exo a c dd)) : ∃ vs sl, h.get? a = some ⟨c, dd, .fields vs, sl⟩ := by
  obtain ⟨⟨o, vs, q, hc, hd, hv⟩, _⟩ := ok a _ e
  obtain ⟨c', d', dt, sl⟩ := o
  dsimp only at hc hd hv
  subst hc hd hv
  exact ⟨vs, sl, q⟩
theorem xdo_at {P : Program} {w : World} {h : Heap} (ok : HOk P w H h) (e : H d = some (xdo d fs)) : fs.length ≤ 1000 ∧ ∃ mA, h.Ns1 d mA ∧ (∀ f, RelO (fs.lookup f) (mA f)) ∧ PySem.Within mA (fs.map (·.1)) := (ok d _ e).1
theorem getx_ok {b : Bool} {Q : Value → Shared → Prop} (I : Inv X pins σ H s) (e : H a = some (exo a (.ref C) (some d))) (ed : H d = some (xdo d fs)) (c : XF X.K C) (n : NoAttr X.K C f) (l : fs.lookup f = some v)
    (h : ∀ u s', Inv X pins σ H s' → RelV v u → Q u s') : wpAny (model X.prog X.w) A (getAttr (.ref a) f b) Q E s := by
  obtain ⟨vs, sl, hx⟩ := exo_at I.hok e
  obtain ⟨_, mA, hn, r, _⟩ := xdo_at I.hok ed
  obtain ⟨u, hu, ru⟩ := RelO.some_of (v := v) (o := mA f) (by rw [← l]; exact r f)
  exact get_exc I.kIn hx hn c.ga c.gt c.be c.hd n hu (handed_of ru) (h u _ (I.tok _) ru)
theorem setx0_ok {y : V} {u : Value} {Q : Unit → Shared → Prop} (I : Inv X pins σ H s) {vs : Array Value} (e : H a = some (exv a (.ref C) none vs)) (c : XF X.K C) (n : NoAttr X.K C f) (ry : RelV y u)
    (h : ∀ d s', H d = none → Inv X pins σ (upd (upd H a (exv a (.ref C) (some d) vs)) d (xdo d [(f, y)])) s' → Q () s') : wpAny (model X.prog X.w) A (setAttr (.ref a) f u) Q E s := by
  obtain ⟨sl, hx⟩ := exv_at I.hok e
  obtain ⟨cd, h1, h2, h3⟩ := c.cd
  refine set_exc0 I.kIn hx c.sa h1 h2 h3 n fun h' x' n' k => h s.heap.objs.size _ (I.hok.fresh (Nat.le_refl _)) ?_
  have I1 : Inv X pins σ (upd H a (exv a (.ref C) (some s.heap.objs.size) vs)) { s with heap := h', toks := s.toks + 2 } :=
    I.write (x := a) (e := a) (by rw [e]; exact True.intro) (.inl rfl) (fun b q hb z => k b q hb z) ⟨_, x'⟩ (exv_ok x')
  have hn : upd H a (exv a (.ref C) (some s.heap.objs.size) vs) s.heap.objs.size = none := by
    rw [upd_ne (Nat.ne_of_gt (Heap.lt_size hx))]; exact I.hok.fresh (Nat.le_refl _)
  have fp : FpOk X pins (upd H a (exv a (.ref C) (some s.heap.objs.size) vs)) s.heap.objs.size := I.fpOk (Nat.le_refl _) hn
  refine I1.adopt hn I.sz fp.2.1 fp.2.2.2.2.1 fp.2.2.2.2.2 (xdo_ok (by show 1 ≤ 1000; decide) n' (fun g => ?_) fun g hg => ?_)
  · show RelO (([(f, y)] : List (Str × V)).lookup g) (if g = f then some u else none)
    by_cases q : g = f
    · rw [if_pos q, q, List.lookup_cons_self]; exact ry
    · rw [if_neg q, List.lookup_cons, beq_eq_false_iff_ne.mpr q]; exact True.intro
  · by_cases q : g = f
    · rw [q]; exact List.mem_singleton.mpr rfl
    · exact absurd (if_neg q) hg
theorem setx1_ok {y : V} {u : Value} {Q : Unit → Shared → Prop} (I : Inv X pins σ H s) {vs : Array Value} (e : H a = some (exv a (.ref C) (some d) vs)) (ed : H d = some (xdo d fs)) (c : XF X.K C) (n : NoAttr X.K C f) (hl : fs.length < 1000) (ry : RelV y u)
    (h : ∀ s', Inv X pins σ (upd H d (xdo d (putF f y fs))) s' → Q () s') : wpAny (model X.prog X.w) A (setAttr (.ref a) f u) Q E s := by
  obtain ⟨sl, hx⟩ := exv_at I.hok e
  obtain ⟨_, mA, hn, r, wi⟩ := xdo_at I.hok ed
  obtain ⟨cd, h1, h2, h3⟩ := c.cd
  have hz : (fs.map (·.1)).length ≤ sizeLine := by rw [List.length_map, sizeLine_eq]; omega
  refine set_exc1 I.kIn hx hn wi hz c.sa h1 h2 h3 n fun h' n' sb => h _ ?_
  have hd : ∃ o, h'.get? d = some o := let ⟨o, _, _, e', _⟩ := n'; ⟨o, e'⟩
  refine I.write (x := d) (e := d) (by rw [ed]; exact True.intro) (.inl rfl) (fun b q hb z => (sb.2 b hb).trans z) hd (xdo_ok ?_ n' (fun g => ?_) fun g hg => ?_)
  · have := length_putF f y fs; omega
  · show RelO ((putF f y fs).lookup g) (if g = f then some u else mA g)
    rw [lookup_putF]
    by_cases q : g = f
    · rw [if_pos q, if_pos q]; exact ry
    · rw [if_neg q, if_neg q]; exact r g
  · by_cases q : g = f
    · rw [q]; exact (keys_putF f y fs).1
    · refine (keys_putF f y fs).2 g (wi g fun z => hg ?_)
      show (if g = f then some u else mA g) = none
      rw [if_neg q]; exact z
end
/-! ### rules -/
def tFldX (K : PySem.W.Frag) (ta : TE) (f : Str) : TE := fun σ H Q => ta σ H fun x H1 => ∃ a C d fs v, x = .ref a ∧ H1 a = some (exo a (.ref C) (some d)) ∧ H1 d = some (xdo d fs) ∧ XF K C ∧ NoAttr K C f ∧ fs.lookup f = some v ∧ Q v H1
def sFldX0 (K : PySem.W.Frag) (ta tv : TE) (f : Str) : TS := fun D σ H => tv σ H fun y H1 => ta σ H1 fun x H2 => ∃ a C vs, x = .ref a ∧ H2 a = some (exv a (.ref C) none vs) ∧ XF K C ∧ NoAttr K C f ∧
  ∀ d, H2 d = none → D.nx σ (upd (upd H2 a (exv a (.ref C) (some d) vs)) d (xdo d [(f, y)]))
def sFldX1 (K : PySem.W.Frag) (ta tv : TE) (f : Str) : TS := fun D σ H => tv σ H fun y H1 => ta σ H1 fun x H2 => ∃ a C vs d fs, x = .ref a ∧ H2 a = some (exv a (.ref C) (some d) vs) ∧ H2 d = some (xdo d fs) ∧ XF K C ∧ NoAttr K C f ∧ fs.length < 1000 ∧
  D.nx σ (upd H2 d (xdo d (putF f y fs)))
section
variable {X : Cx} {o e value : Expr} {f : Str} {pos pos' : Pos} {ta tv : TE}
theorem pe_fldX (ha : PE X e ta) (hb : attributeBase e f X.env (eval e X.env) = eval e X.env) : PE X (.Attribute e f pos) (tFldX X.K ta f) := by
  intro pins s σ H Q I h
  refine attr_of hb (thn (ha pins s σ H _ I h) fun u s1 ⟨x, H1, I1, rx, a, C, d, fs, v, ex, ea, ed, c, n, l, q⟩ => ?_)
  subst ex
  obtain rfl : u = Value.ref a := rx
  exact getx_ok I1 ea ed c n l fun u s2 I2 ru => ⟨v, H1, I2, ru, q⟩
theorem ps_fldX0 (ha : PE X o ta) (hv : PE X value tv) (hs : swapsWith value (some (.Attribute o f pos')) pos.line X.env = pure false) : PS X (.Assign [.Attribute o f pos'] value pos) (sFldX0 X.K ta tv f) := by
  intro pins s σ H D I h
  refine plainObj_wpAny_Assign_Attribute (thn (hv pins s σ H _ I h) fun u s1 ⟨y, H1, I1, ry, q⟩ => thn (ha pins s1 σ H1 _ I1 q) fun ov s2 ⟨x, H2, I2, rx, a, C, vs, ex, ea, c, n, q2⟩ => ?_) hs
  subst ex
  obtain rfl : ov = Value.ref a := rx
  exact setx0_ok I2 ea c n ry fun d s3 hd I3 => ⟨σ, _, I3, q2 d hd⟩
theorem ps_fldX1 (ha : PE X o ta) (hv : PE X value tv) (hs : swapsWith value (some (.Attribute o f pos')) pos.line X.env = pure false) : PS X (.Assign [.Attribute o f pos'] value pos) (sFldX1 X.K ta tv f) := by
  intro pins s σ H D I h
  refine plainObj_wpAny_Assign_Attribute (thn (hv pins s σ H _ I h) fun u s1 ⟨y, H1, I1, ry, q⟩ => thn (ha pins s1 σ H1 _ I1 q) fun ov s2 ⟨x, H2, I2, rx, a, C, vs, d, fs, ex, ea, ed, c, n, l, q2⟩ => ?_) hs
  subst ex
  obtain rfl : ov = Value.ref a := rx
  exact setx1_ok I2 ea ed c n l ry fun s3 I3 => ⟨σ, _, I3, q2⟩
end
/-! ### raise C(..) of a class with an __init__ of its own -/
structure XCI (K : PySem.W.Frag) (C f : Addr) : Prop where
  exc : XClsI K C
  init : W.findIn K (.ref C) "__init__" = some (some (.ref f))
  fn : PySem.W.isFn K (.ref f) = true
  kp : PySem.W.keepIn K (.ref C) = true
abbrev fresh6 (t : Addr) : Array Value := #[.ref t, .none, .none, .none, .bool false, .none]
def tRaiseI (C : Addr) (sp : Sp) (W : WX) (t : TA) : TS := fun _ σ H => t σ H fun vs H1 => vs.length ≤ sizeLine ∧ ∀ ea ta, H1 ea = none → sp (.ref ea :: vs) (upd H1 ea (exv ea (.ref C) none (fresh6 ta)))
  (fun r H2 => r = .non ∧ ∃ dd, H2 ea = some (exv ea (.ref C) dd (fresh6 ta)) ∧ W σ (.ref C) dd (del H2 ea)) (fun _ _ _ => False)
section
variable {X : Cx} {W : WX} {k : Nat} {C f : Addr} {fd : FuncData} {ps : List Str} {sp : Sp} {x : Str} {np cpos pos : Pos} {e : Expr} {es : List Expr} {t : TA} {P : Program} {w : World}
theorem ps_raiseI (hc : X.calm = true) (hL : Lifts X W) (xc : XCI X.K C f) (F : FnOk P w X.K X.mg X.base CX0 k f fd ps sp) (hr : Room (k + 1) X.A) (hb : Binds X.K fd ps []) (hg : Gl X x) (hm : X.mg x = some (.ref C)) (ha : PA X (e :: es) t)
    (hP : X.prog = P := by rfl) (hw : X.w = w := by rfl) (hdb : (x == ("__debug__" : Str)) = false := by decide)
    (he : starEach (e :: es) X.env = (false, eval e X.env) :: starEach es X.env := by rfl) (hpl : (backTo cpos (starEach es X.env)).any (·.1) = false := by rfl) :
    PS X (.Raise (some (.Call (.Name x np) (e :: es) [] cpos)) none pos) (tRaiseI C sp W t) := by
  subst hP hw
  intro pins s σ H D I h
  rw [arm_exec_Raise]
  refine wpAny_bind (wpAny_standAt (raise_core (C := C) (I.ok.hd hc) (wpAny_bind (wpAny_mono ?_ (fun v s3 z => wpAny_bind (wpAny_standAt (wpAny_pure z))) fun _ _ y => y))))
  refine wpAny_Call_Name_kw (ld_glob I hg hm ?_ hdb)
  refine PySem.W.callWith_K (h₀ := X.base) I.ok.mod.kin xc.kp (thn (ha cpos pins s σ H _ I h) fun us s1 ⟨vs, H1, I1, r, hz, q⟩ => ⟨I1.kIn, ?_⟩) he hpl
  obtain ⟨oi, xa⟩ := xc.exc.at I1.kIn
  obtain ⟨h1, g1, d1, t1, os1⟩ := s1
  have kin : ∀ h' : Heap, (∀ b o, h1.get? b = some o → h'.get? b = some o) → X.K.In h' := fun h' k a o z => k a o (I1.kIn a o z)
  refine exc_callI (f := f) xa (by rw [List.nil_append, ← r.length]; exact hz) (fun h' k => PySem.W.looks_findIn (kin h' k) xc.init) (fun h' self k => PySem.W.bind_fn (kin h' k) self (beq_iff_eq.mp xc.fn)) ?_
  rw [List.nil_append]
  have fr : H1 (h1.objs.size + 1) = none := I1.hok.fresh (Nat.le_succ _)
  have q1 := q (h1.objs.size + 1) h1.objs.size fr
  have ge : ((h1.push (argT us)).push (newX C h1.objs.size)).get? (h1.objs.size + 1) = some (newX C h1.objs.size) := by heap_get
  have I2 : Inv X pins σ (upd H1 (h1.objs.size + 1) (exv (h1.objs.size + 1) (.ref C) none (fresh6 h1.objs.size))) ⟨(h1.push (argT us)).push (newX C h1.objs.size), g1, d1, t1, os1⟩ :=
    I1.laid (t' := t1) (h' := (h1.push (argT us)).push (newX C h1.objs.size)) (fun b o z => Heap.get?_push_of_some _ (Heap.get?_push_of_some _ z)) (Nat.le_succ _) (exv_ok ge)
  have r2 : Vals (V.ref (h1.objs.size + 1) :: vs) (Value.ref (h1.objs.size + 1) :: us) := .cons rfl r
  have hl : (Value.ref (h1.objs.size + 1) :: us ++ []).length = ps.length := by
    have e := r2.length
    rw [F.len _ _ _ _ q1] at e
    rw [List.append_nil]
    exact e.symm
  have hb2 := hb _ (Value.ref (h1.objs.size + 1) :: us) I2.kIn hl
  rw [List.append_nil] at hb2
  refine wpAny_call (codeAny_mono (F.run _ X.stack _ _ ⟨Value.ref (h1.objs.size + 1) :: us, []⟩ (Value.ref (h1.objs.size + 1) :: us) _ _ _ (hr.make C us []) (I2.env0.make C us []) hb2 r2 q1) fun r s' hq' => ?_)
  cases r with
  | error e => exact (show False from hq').elim
  | ok fl =>
    cases fl with
    | next => exact False.elim hq'
    | brk => exact False.elim hq'
    | cont => exact False.elim hq'
    | ret u =>
      obtain ⟨v, H', I3, rv, ev, dd, e3, q3⟩ := I2.after hq'
      subst ev
      obtain ⟨sl, hx⟩ := exv_at I3.hok e3
      obtain ⟨oi', xa'⟩ := xc.exc.at I3.kIn
      refine ⟨rv, _, _, _, _, _, rfl, xa', hx, rfl, rfl, rfl, rfl, hL _ _ _ _ _ _ _ (tb := none) ⟨I3.del e3, ⟨⟨_, _, _, hx, rfl, rfl, rfl, rfl, rfl⟩, fun T z => by cases z⟩, I1.fpOk (Nat.le_succ _) del_same, fun T z => by cases z⟩ q3⟩
end
end L2

namespace L2
open PySem PySem.Spec PySem.W PyProof.Rows L3
theorem findObj_dataO {K : Frag} {C : Addr} {od : Option Obj} {name : Str} {a g : Value} (hc : (clsIn K C).isSome = true) (ha : findIn K (.ref C) name = some (some a)) (hn : specialIn K a (Str.ofString "__get__") = some (some g)) (ht : takesIn K a = some true) :
    findObj K C od name = some (.bind g a) := by
  obtain ⟨cd, hcd⟩ := Option.isSome_iff_exists.mp hc
  unfold findObj
  rw [hcd, ha]
  simp only [Option.bind_some]
  rw [hn]
  simp only [Option.bind_some]
  rw [ht]
  simp only [Option.bind_some]
/-- what isinstance looks at in a class of errors -/
structure XK1 (K : Frag) (D : Addr) : Prop where
  ga : findIn K (.ref D) (Str.ofString "__getattribute__") = some (some (.builtin gaBE))
  gn : findIn K (.ref D) (Str.ofString "__getattr__") = some none
  be : mroIn K D (.type "BaseException") = some true
  hd : hasDictIn K D = true
  cl : findIn K (.ref D) (Str.ofString "__class__") = some (some (.builtin "object.__class__"))
  gt : specialIn K (.builtin "object.__class__") (Str.ofString "__get__") = some (some (.builtin "getset_descriptor.__get__"))
  tk : takesIn K (.builtin "object.__class__") = some true
  mr : mroIn K D (.type "object") = some true
theorem kin_classO {prog : Program} {w : World} {A : Around} {E : Value → Shared → Prop} {s : Shared} {K : Frag} {x D : Addr} {ox : Obj} {od : Option Obj} {Q : Option Value → Shared → Prop} (c : XK1 K D) (X : K.In s.heap) (I : InstAt s.heap x ox D od)
    (h : Q (some (.ref D)) { s with toks := s.toks + 1 }) : wpAny (model prog w) A (getAttr? (.ref x) (Str.ofString "__class__")) Q E s := by
  have hf := findObj_dataO (od := od) (by obtain ⟨cd, hc, _⟩ := any_some c.hd; rw [hc]; rfl) c.cl c.gt c.tk
  unfold getAttr? getAttrBy?
  refine wpAny_bind (wpAny_mkText (wpAny_bind (wpAny_attempt (ga_open (s := { s with toks := s.toks + 1 }) (fill := false) (expr := false) X I c.ga c.gn c.be (ga_body (s := { s with toks := s.toks + 1 }) X I hf ?_ (by intro z; cases z))))))
  show wpAny (model prog w) A.in1 (Builtin.ObjectAttr.bindTo (.builtin "getset_descriptor.__get__") (.builtin "object.__class__") (.ref x) (.ref D)) _ _ _
  unfold Builtin.ObjectAttr.bindTo
  refine wpAny_bind (wpAny_holding (wpAny_call (class_get (s := { s with toks := s.toks + 1 }) X I c.mr ?_)))
  exact wpAny_pure ⟨_, rfl, handed_on rfl (wpAny_pure h)⟩
theorem kitx_exc {K : Frag} {x D : Addr} {ox : Obj} {od : Option Obj} (c : XK1 K D) : KitX K (.ref x) (.ref D) (fun h => InstAt h x ox D od) :=
  { ty := fun _ _ _ I => InstAt.type I
    it := fun M h X _ => by
      obtain ⟨cd, hc, _⟩ := any_some c.hd
      unfold clsIn at hc
      split at hc
      · rename_i oc dd cd' sl ho
        intro A' Q' E' s' k q
        exact wpAny_bind (wpAny_loadPart (k D _ (X D _ ho)) (wpAny_pure q))
      · cases hc
    ne := fun h tp dd its n sl X htp => by
      obtain ⟨cd, hc, _⟩ := any_some c.hd
      unfold clsIn at hc
      split at hc
      · rename_i oc dd' cd' sl' ho
        rw [Bool.eq_false_iff]
        intro q
        have e := Value.ref.inj (beq_iff_eq.mp q)
        subst e
        rw [X _ _ ho] at htp
        cases htp
      · cases hc
    ca := fun X I q => kin_classO c X I q }
def rIsiE (K : Frag) : List V → Hp → VK → Prop := fun xs H Q => ∃ ea D dd cl cv b, xs = [.ref ea, cl] ∧ H ea = some (exo ea (.ref D) dd) ∧ (∀ d, dd = some d → ∃ fs, H d = some (xdo d fs)) ∧ XK1 K D ∧ clsV cl = some cv ∧ kitOne K (.ref D) cv = some b ∧ Q (.bl b) H
theorem call_isiE {X : Cx} : CallR X (.builtin "isinstance") (rIsiE X.K) := by
  intro pins s σ H xs us Q I r h
  obtain ⟨ea, D, dd, cl, cv, b, e, he, hd, c, hc, hk, q⟩ := h
  subst e
  cases r with
  | cons r1 r2 =>
    cases r2 with
    | cons r2 r3 =>
      cases r3
      cases clsV_rel hc r2
      cases r1
      obtain ⟨vs, sl, hx⟩ := exo_at I.hok he
      have J : ∃ od, InstAt s.heap ea ⟨.ref D, dd, .fields vs, sl⟩ D od := by
        cases dd with
        | none => exact ⟨none, hx, rfl, rfl, True.intro⟩
        | some d =>
          obtain ⟨fs, hd⟩ := hd d rfl
          obtain ⟨_, mA, ⟨o, es, ep, eo, _⟩, _⟩ := xdo_at I.hok hd
          exact ⟨some o, hx, rfl, rfl, eo⟩
      obtain ⟨od, J⟩ := J
      exact kia_one (kitx_exc c) I.kIn J hk (fun z => nomatch z) fun tk => ⟨.bl b, H, I.tok tk, rfl, q⟩
theorem isiE_K {X : Cx} (K : Frag) (h : X.K = K := by rfl) : CallR X (.builtin "isinstance") (rIsiE K) := by subst h; exact call_isiE
end L2

namespace TL
open PySem PySem.Spec PyProof.Rows L2 L3
/-- Python's own names are not hidden -/
structure Bl (mg : Str → Option Value) : Prop where
  isi : mg "isinstance" = none
  int : mg "int" = none
  bool : mg "bool" = none
  str : mg "str" = none
  tuple : mg "tuple" = none
  len : mg "len" = none
  all : mg "all" = none
  zip : mg "zip" = none
/-- the file's numbers -/
structure Cn (mg : Str → Option Value) : Prop where
  top : ∃ u, mg "TOP" = some u ∧ RelV (.int TOPi) u
  names : ∃ u, mg "NAMES" = some u ∧ RelV (.int 12) u
  regs : ∃ u, mg "REGISTERS" = some u ∧ RelV (.int 4) u
  long : ∃ u, mg "LONGEST" = some u ∧ RelV (.int 120) u
section
variable {P : Program} {w : World} {K : PySem.W.Frag} {mg : Str → Option Value} {base : Heap}
def spWhole : Sp := fun vs H Q _ => ∃ v T, vs = [v] ∧ tyName H v = some T ∧ Q (.bl (isW v)) H
theorem scWhole : FnScope ["thing"] ["thing"] (defScope sWhole) := ⟨rfl, rfl, rfl, by decide +kernel, rfl, by decide +kernel, by decide +kernel⟩
theorem ok_whole {f : Addr} {fd : FuncData} (F : Fun K "is_whole" "is_whole" sWhole f fd) (B : Bl mg) : FnOk P w K mg base CX0 1 f fd ["thing"] spWhole := by
  refine F.ok scWhole (fun vs H Q E h => ?_) (fun cdv A outer s H vs Q E hr h => ?_)
  · obtain ⟨v, T, rfl, _⟩ := h
    rfl
  · obtain ⟨v, T, rfl, ht, k⟩ := h
    refine ⟨_, pss_one (ps_ret (pe_and (pe_callB call_isi rfl B.isi boot_isinstance (pa_cons (pv 0) (pa_cons (pe_bltn (v := .ty "int") rfl B.int boot_int rfl) pa_nil)))
      (pe_one (pe_not (pe_callB call_isi rfl B.isi boot_isinstance (pa_cons (pv 0) (pa_cons (pe_bltn (v := .ty "bool") rfl B.bool boot_bool rfl) pa_nil))))))), ?_⟩
    have e := isW_of ht
    refine ⟨v, rfl, _, _, _, _, _, rfl, tyT ht, rfl, kitU ht (by decide), _, rfl, iteB (fun h1 => ?_) (fun h1 => ?_)⟩
    · refine ⟨v, rfl, _, _, _, _, _, rfl, tyT ht, rfl, kitU ht (by decide), _, rfl, ?_⟩
      rw [h1, Bool.true_and] at e
      rw [e]
      exact k
    · rw [h1, Bool.false_and] at e
      rw [e]
      exact k

def spBounds : Sp := fun vs H Q _ => ∃ x, vs = [.str x] ∧ (boundsM x = none → Q .non H) ∧ ∀ bs, boundsM x = some bs → ∀ p, H p = none → Q (.ref p) (upd H p (.lst (bs.map V.int)))
theorem scBounds : FnScope ["word"] ["word"] (defScope sBounds) := ⟨rfl, rfl, rfl, by decide +kernel, rfl, by decide +kernel, by decide +kernel⟩
theorem str_inj {x y : Str} (h : V.str x = V.str y) : x = y := by injection h
theorem ok_bounds {f : Addr} {fd : FuncData} (F : Fun K "bounds_of" "bounds_of" sBounds f fd) (C : Cn mg) : FnOk P w K mg base CX0 1 f fd ["word"] spBounds := by
  refine F.ok scBounds (fun vs H Q E h => ?_) (fun cdv A outer s H vs Q E hr h => ?_)
  · obtain ⟨v, rfl, _⟩ := h
    rfl
  · obtain ⟨x, rfl, k0, k1⟩ := h
    obtain ⟨uT, mT, rT⟩ := C.top
    obtain ⟨uN, mN, rN⟩ := C.names
    obtain ⟨uR, mR, rR⟩ := C.regs
    obtain ⟨uL, mL, rL⟩ := C.long
    refine ⟨_, pss_cons (ps_if (pt_cmpR op_eq (pv 0) pe_str (nomark _)) (pss_one (ps_ret (pe_lst (pa_cons (pe_glob rfl mR rR) (pa_cons (pe_glob rfl mT rT) pa_nil))))) pss_nil)
      (pss_cons (ps_if (pt_cmpR op_eq (pv 0) pe_str (nomark _)) (pss_one (ps_ret (pe_lst (pa_cons (pe_glob rfl mR rR) (pa_cons (pe_glob rfl mR rR) pa_nil))))) pss_nil)
      (pss_cons (ps_if (pt_cmpR op_eq (pv 0) pe_str (nomark _)) (pss_one (ps_ret (pe_lst (pa_cons (pe_glob rfl mN rN) (pa_cons (pe_glob rfl mR rR) pa_nil))))) pss_nil)
      (pss_cons (ps_if (PW.pt (pw_or (pt_cmpR op_eq (pv 0) pe_str (nomark _)) (pw_or1 (pt_cmpR op_eq (pv 0) pe_str (nomark _))))) (pss_one (ps_ret (pe_lst (pa_cons (pe_glob rfl mR rR) (pa_cons (pe_glob rfl mN rN) pa_nil))))) pss_nil)
      (pss_cons (ps_if (pt_cmpR op_eq (pv 0) pe_str (nomark _)) (pss_one (ps_ret (pe_lst pa_nil))) pss_nil)
      (pss_cons (ps_if (pt_cmpR op_eq (pv 0) pe_str (nomark _)) (pss_one (ps_ret (pe_lst (pa_cons (pe_glob rfl mR rR) (pa_cons (pe_op op_add (pe_glob rfl mL rL) pe_int) pa_nil))))) pss_nil)
      (pss_one (ps_ret pe_non))))))), ?_⟩
    refine ⟨_, rfl, rfl, _, rfl, iteD (fun e => ?_) (fun n1 => ?_)⟩
    · cases str_inj e
      exact ⟨by decide, fun p hp => k1 [4, TOPi] (by unfold boundsM; rw [if_pos rfl]) p hp⟩
    refine ⟨_, rfl, rfl, _, rfl, iteD (fun e => ?_) (fun n2 => ?_)⟩
    · cases str_inj e
      exact ⟨by decide, fun p hp => k1 [4, 4] (by unfold boundsM; rw [if_neg (by decide +kernel), if_pos rfl]) p hp⟩
    refine ⟨_, rfl, rfl, _, rfl, iteD (fun e => ?_) (fun n3 => ?_)⟩
    · cases str_inj e
      exact ⟨by decide, fun p hp => k1 [12, 4] (by unfold boundsM; rw [if_neg (by decide +kernel), if_neg (by decide +kernel), if_pos rfl]) p hp⟩
    refine ⟨_, rfl, rfl, _, rfl, iteD (fun e => ?_) (fun n4 => ?_)⟩
    · cases str_inj e
      exact iteT ⟨by decide, fun p hp => k1 [4, 12] (by unfold boundsM; rw [if_neg (by decide +kernel), if_neg (by decide +kernel), if_neg (by decide +kernel), if_pos rfl]) p hp⟩
    refine ⟨_, rfl, rfl, _, rfl, iteD (fun e => ?_) (fun n5 => ?_)⟩
    · cases str_inj e
      exact ⟨by decide, fun p hp => k1 [4, 12] (by unfold boundsM; rw [if_neg (by decide +kernel), if_neg (by decide +kernel), if_neg (by decide +kernel), if_neg (by decide +kernel), if_pos rfl]) p hp⟩
    refine ⟨_, rfl, rfl, _, rfl, iteD (fun e => ?_) (fun n6 => ?_)⟩
    · cases str_inj e
      exact ⟨by decide, fun p hp => k1 [] (by unfold boundsM; rw [if_neg (by decide +kernel), if_neg (by decide +kernel), if_neg (by decide +kernel), if_neg (by decide +kernel), if_neg (by decide +kernel), if_pos rfl]) p hp⟩
    refine ⟨_, rfl, rfl, _, rfl, iteD (fun e => ?_) (fun n7 => ?_)⟩
    · cases str_inj e
      exact ⟨_, _, rfl, rfl, by decide, fun p hp => k1 [4, 121] (by unfold boundsM; rw [if_neg (by decide +kernel), if_neg (by decide +kernel), if_neg (by decide +kernel), if_neg (by decide +kernel), if_neg (by decide +kernel), if_neg (by decide +kernel), if_pos rfl]) p hp⟩
    refine k0 ?_
    have nn : ∀ {y : Str}, ¬ V.str x = V.str y → ¬ x = y := fun h e => h (by rw [e])
    unfold boundsM
    rw [if_neg (nn n1), if_neg (nn n2), if_neg (nn n3), if_neg (nn n4), if_neg (nn n5), if_neg (nn n6), if_neg (nn n7)]

/-! ### is_step -/
def spIsStep : Sp := fun vs H Q _ => ∃ v T, vs = [v] ∧ tyName H v = some T ∧ (∀ xs, viewT H v = some xs → xs.length ≤ 1000 ∧ ∀ x ∈ xs, ∃ T, tyName H x = some T) ∧ ∀ H', Same H H' → Q (.bl (isStep H v)) H'
theorem scIsStep : FnScope ["told", "bounds"] ["told"] (defScope sIsStep) := ⟨rfl, rfl, rfl, by decide +kernel, rfl, by decide +kernel, by decide +kernel⟩
theorem sIx1 (y : V) (ps : List V) : HT.sIx (y :: ps).length 0 (some 1) = 1 := by
  simp only [HT.sIx, List.length_cons]
  first | omega | (simp; done) | (split <;> omega)
theorem cut1 (y : V) (ps : List V) : cutV (y :: ps) (some 1) none = ps := by
  unfold cutV
  rw [sIx1]
  show List.take (HT.sIx (y :: ps).length (y :: ps).length none - 1) ps = ps
  exact List.take_of_length_le (by simp [HT.sIx])
theorem bounds_len {x : Str} {bs : List Int} (h : boundsM x = some bs) : bs.length ≤ 2 := by
  unfold boundsM at h
  repeat (first | (split at h; (cases h; decide)) | (cases h; done))
theorem nd_pb : (["part", "bound"] : List Str).Nodup := by decide +kernel
theorem ok_isStep {f fW fB : Addr} {fd fdW fdB : FuncData} (F : Fun K "is_step" "is_step" sIsStep f fd) (B : Bl mg) (C : Cn mg)
    (FW : Fun K "is_whole" "is_whole" sWhole fW fdW) (bW : Binds K fdW ["thing"] []) (mW : mg "is_whole" = some (.ref fW)) (FB : Fun K "bounds_of" "bounds_of" sBounds fB fdB) (bB : Binds K fdB ["word"] []) (mB : mg "bounds_of" = some (.ref fB)) :
    FnOk P w K mg base CX0 2 f fd ["told"] spIsStep := by
  have GW : FnOk P w K mg base CX0 1 fW fdW ["thing"] spWhole := ok_whole FW B
  have GB : FnOk P w K mg base CX0 1 fB fdB ["word"] spBounds := ok_bounds FB C
  refine F.ok scIsStep (fun vs H Q E h => ?_) (fun cdv A outer s H vs Q E hr h => ?_)
  · obtain ⟨v, T, rfl, _⟩ := h
    rfl
  · obtain ⟨v, T, rfl, ht, hx, k⟩ := h
    refine ⟨_, pss_cons (ps_if (PW.pt (pw_or (pt_not (pt_val (pe_callB call_isi rfl B.isi boot_isinstance (pa_cons (pv 0) (pa_cons (pe_bltn (v := .ty "tuple") rfl B.tuple boot_tuple rfl) pa_nil)))))
        (pw_or (pt_cmpR op_eq (pe_callB call_len_seq rfl B.len PySem.boot_len (pa_cons (pv 0) pa_nil)) pe_int (nomark _))
        (pw_or1 (pt_not (pt_val (pe_callB call_isi rfl B.isi boot_isinstance (pa_cons (pe_ix ix_tup (pv 0) pe_int (fun _ _ => rfl)) (pa_cons (pe_bltn (v := .ty "str") rfl B.str boot_str rfl) pa_nil)))))))))
        (pss_one (ps_ret pe_bl)) pss_nil)
      (pss_cons (ps_set (i := 1) scIsStep.nd rfl (Or.inl rfl) (pe_call GB hr rfl mB FB.kp bB .nil pass0 (pa_cons (pe_ix ix_tup (pv 0) pe_int (fun _ _ => rfl)) pa_nil)))
      (pss_cons (ps_if (PW.pt (pw_or (pt_cmpR op_isN (pv 1) pe_non (nomark _))
        (pw_or1 (pt_cmpR op_ne (pe_callB call_len_seq rfl B.len PySem.boot_len (pa_cons (pv 0) pa_nil)) (pe_op op_add (pe_callB call_len_seq rfl B.len PySem.boot_len (pa_cons (pv 1) pa_nil)) pe_int) (nomark _)))))
        (pss_one (ps_ret pe_bl)) pss_nil)
      (pss_one (ps_ret (pe_callB (call_all rfl) rfl B.all boot_all (pa_cons (pe_comp (N := ["part", "bound"]) (idx := []) rfl (ScC.of (by kernel_rfl)) (gkeep_pair (Nat.zero_le _) (Nat.zero_le _))
        (pi_zip (b1 := false) (b2 := true) rfl B.zip (pa_cons (pe_slice sl_tup (pv 0) (po_some pe_int) po_none) (pa_cons (pv 1) pa_nil)))
        (fun _ _ _ _ => pg_tup rfl (pgs_cons (pg_name (i := 0) nd_pb rfl (Or.inl rfl) (.inr rfl)) (pgs_cons (pg_name (i := 1) nd_pb rfl (Or.inl rfl) (.inr rfl)) pgs_nil)))
        (fun _ _ _ _ => pts_nil)
        (fun _ _ _ _ => pe_and (pe_call GW hr rfl mW FW.kp bW .nil pass0 (pa_cons (pv 0) pa_nil)) (pe_one (pe_chain op_le op_lt pe_int (pv 0) (pv 1))))) pa_nil)))))), ?_⟩
    cases hv : viewT H v with
    | none =>
      have hi : isiB T "tuple" = false := by rw [noView ht, hv]; rfl
      have hst : isStep H v = false := by unfold isStep; rw [hv]
      have kk := k H (Same.refl H)
      rw [hst] at kk
      refine ⟨v, rfl, _, _, _, _, _, rfl, tyT ht, rfl, kitU ht (by decide), _, rfl, ?_⟩
      rw [hi]
      exact iteT (iteT kk)
    | some xs =>
      obtain ⟨a, e0, ha⟩ := viewT_ref hv
      subst e0
      obtain ⟨hl, hty⟩ := hx xs hv
      have hi : isiB T "tuple" = true := by rw [noView ht, hv]; rfl
      have kk : ∀ H', Same H H' → Q (.bl (stepOk xs)) H' := fun H' s => by
        have q := k H' s
        unfold isStep at q
        rw [hv] at q
        exact q
      refine ⟨_, rfl, _, _, _, _, _, rfl, tyT ht, rfl, kitU ht (by decide), _, rfl, ?_⟩
      rw [hi]
      refine iteF ?_
      cases xs with
      | nil =>
        refine ⟨_, rfl, a, [], rfl, .inr (SqT.of ha), rfl, _, rfl, iteD (fun e => ?_) (fun n0 => absurd rfl n0)⟩
        exact iteT (kk H (Same.refl H))
      | cons y ps =>
        refine ⟨_, rfl, a, y :: ps, rfl, .inr (SqT.of ha), rfl, _, rfl, iteD (fun e => ?_) (fun n0 => ?_)⟩
        · injection e with e
          exact absurd e (by simp only [List.length_cons]; omega)
        obtain ⟨Ty, hy⟩ := hty y List.mem_cons_self
        refine ⟨_, rfl, a, y :: ps, 0, y, rfl, rfl, SqT.of ha, atI_nat (j := 0) rfl, _, _, _, _, _, rfl, tyT hy, rfl, kitU hy (by decide), _, rfl, ?_⟩
        refine iteNB (fun h1 => ?_) (fun h1 => ?_)
        · have e : stepOk (y :: ps) = false := by
            cases y with
            | str x => exact absurd ((isiStr hy).mpr ⟨x, rfl⟩) (by rw [h1]; exact Bool.false_ne_true)
            | _ => rfl
          have q := kk H (Same.refl H)
          rw [e] at q
          exact q
        obtain ⟨x0, e0⟩ := (isiStr hy).mp h1
        subst e0
        refine ⟨_, rfl, a, _, 0, .str x0, rfl, rfl, SqT.of ha, atI_nat (j := 0) rfl, x0, rfl, fun hb => ?_, fun bs hb p hp => ?_⟩
        · refine ⟨_, rfl, rfl, _, rfl, iteD (fun _ => ?_) (fun n => absurd rfl n)⟩
          have e : stepOk (.str x0 :: ps) = false := by
            show (match boundsM x0 with | none => false | some bs => decide (ps.length = bs.length) && (ps.zip bs).all fun p => wIn p.1 p.2) = false
            rw [hb]
          have q := kk H (Same.refl H)
          rw [e] at q
          exact iteT q
        have s1 : Same H (upd H p (.lst (bs.map V.int))) := same_new (Same.refl H) hp
        have ha1 := s1 _ _ ha
        have eS : stepOk (.str x0 :: ps) = (decide (ps.length = bs.length) && (ps.zip bs).all fun p => wIn p.1 p.2) := by
          show (match boundsM x0 with | none => false | some bs => decide (ps.length = bs.length) && (ps.zip bs).all fun p => wIn p.1 p.2) = _
          rw [hb]
        rw [eS] at kk
        refine ⟨_, rfl, rfl, _, rfl, iteD (fun z => by cases z) (fun _ => ?_)⟩
        refine ⟨_, rfl, a, _, rfl, .inr (SqT.of ha1), _, rfl, p, _, rfl, .inl (SqL.of upd_same), _, _, rfl, rfl, rfl, _, rfl, iteND (fun ne => ?_) (fun eq => ?_)⟩
        · have e : decide (ps.length = bs.length) = false := decide_eq_false fun z => ne (by rw [List.length_cons, List.length_map, z]; rfl)
          rw [e, Bool.false_and] at kk
          exact kk _ s1
        have hlen : ps.length = bs.length := by
          injection eq with eq
          rw [List.length_cons, List.length_map] at eq
          omega
        rw [decide_eq_true hlen, Bool.true_and] at kk
        refine ⟨_, rfl, 1, rfl, a, _, rfl, SqT.of ha1, ?_, fun q hq => ?_⟩
        · intro z
          have z1 := z.1
          rw [sIx1] at z1
          cases z1
        rw [cut1]
        have s2 : Same H (upd (upd H p (.lst (bs.map V.int))) q (.tup ps)) := same_new s1 hq
        have nqp : p ≠ q := ne_of_none upd_same hq
        have hp2 : upd (upd H p (.lst (bs.map V.int))) q (.tup ps) p = some (.lst (bs.map V.int)) := by rw [upd_ne nqp]; exact upd_same
        refine ⟨_, rfl, q, p, ps, bs.map V.int, rfl, SqT.of upd_same, SqL.of hp2, ?_⟩
        generalize hH3 : upd (upd H p (.lst (bs.map V.int))) q (.tup ps) = H3 at s2 hp2
        have hq3 : H3 q = some (.tup ps) := by rw [← hH3]; exact upd_same
        refine compW_of (n := bs.length) (fun i ys H' => i ≤ bs.length ∧ Same H3 H' ∧ ys = ((ps.zip bs).take i).map fun z => V.bl (wIn z.1 z.2)) ?_ ?_ ?_ ?_ ?_ ?_ ?_
        · have hln := bounds_len hb
          exact Nat.le_of_lt (small1000 (by omega))
        · exact ⟨Nat.zero_le _, Same.refl _, rfl⟩
        · rintro i ys H' ⟨_, _, e⟩
          rw [e, List.length_map, List.length_take]
          omega
        · rintro i ys H' hi ⟨_, s3, _⟩
          exact ⟨ps, bs.map V.int, ps[i]'(by omega), V.int bs[i], SqT.of (s3 _ _ hq3), SqL.of (s3 _ _ hp2), by simp [hlen, hi], by simp [hi]⟩
        · rintro ys H' ⟨_, s3, _⟩
          exact ⟨ps, bs.map V.int, SqT.of (s3 _ _ hq3), SqL.of (s3 _ _ hp2), .inr (by rw [List.length_map]; exact Nat.le_refl _)⟩
        · rintro i ys H' hi ⟨_, s3, e⟩ v H'' ⟨r, x, y, hr0, ev, eH, hxy⟩
          obtain ⟨hx1, hy1⟩ := hxy ps (bs.map V.int) (SqT.of (s3 _ _ hq3)) (SqL.of (s3 _ _ hp2))
          subst ev
          subst eH
          have hb1 : y = V.int bs[i] := by
            rw [List.getElem?_map, List.getElem?_eq_getElem hi] at hy1
            exact (Option.some.inj hy1).symm
          subst hb1
          have s4 : Same H3 (upd H' r (.tup [x, V.int bs[i]])) := same_new s3 hr0
          obtain ⟨Tx, hTx⟩ := hty x (List.mem_cons_of_mem _ (List.mem_of_getElem? hx1))
          have hTx4 := tyName_same (s2.trans s4) hTx
          have zi : (ps.zip bs)[i]? = some (x, bs[i]) := by
            rw [List.getElem?_zip_eq_some]
            exact ⟨hx1, List.getElem?_eq_getElem hi⟩
          have fin : ∀ c, c = wIn x bs[i] → i + 1 ≤ bs.length ∧ Same H3 (upd H' r (.tup [x, V.int bs[i]])) ∧ ys ++ [V.bl c] = ((ps.zip bs).take (i + 1)).map fun z => V.bl (wIn z.1 z.2) := fun c hc => by
            refine ⟨hi, s4, ?_⟩
            rw [List.take_add_one, zi, List.map_append, ← e, hc]
            rfl
          refine ⟨r, [x, V.int bs[i]], rfl, SqT.of upd_same, rfl, x, [V.int bs[i]], rfl, V.int bs[i], [], rfl, rfl, ?_⟩
          dsimp only [tYes]
          rw [if_pos rfl]
          refine ⟨_, rfl, x, Tx, rfl, hTx4, _, rfl, ?_⟩
          cases x with
          | int j =>
            refine iteT ⟨_, rfl, 0, j, rfl, rfl, _, rfl, iteD (fun h0 => ?_) (fun h0 => ?_)⟩
            · refine ⟨_, rfl, j, bs[i], rfl, rfl, ?_⟩
              exact fin _ (by show _ = (decide (0 ≤ j) && decide (j < bs[i])); rw [decide_eq_true h0, Bool.true_and])
            · exact fin _ (by show _ = (decide (0 ≤ j) && decide (j < bs[i])); rw [decide_eq_false h0, Bool.false_and])
          | _ => exact iteF (fin _ rfl)
        · rintro ys H' ⟨_, s3, e⟩
          refine ⟨?_, fun r hr0 => ?_⟩
          · rw [e, List.length_map, List.length_take]
            have hln := bounds_len hb
            have := small1000 (n := bs.length) (by omega)
            omega
          have ey : ys = (((ps.zip bs).map fun z => wIn z.1 z.2)).map V.bl := by
            rw [e, List.take_of_length_le (by rw [List.length_zip]; omega), List.map_map]
            rfl
          refine ⟨r, (ps.zip bs).map fun z => wIn z.1 z.2, rfl, SqL.of (by rw [upd_same, ey]), ?_⟩
          rw [List.all_map]
          exact kk _ (same_new (s2.trans s3) hr0)

/-! ### the steps are made -/
def spInit (K : PySem.W.Frag) : Sp := fun vs H Q _ => ∃ x C dx fs a xs, vs = [.ref x, .ref a] ∧ H x = some (.ins C dx fs) ∧ Cls K C ∧ NoAttr K C "parts" ∧ fs.length < 900 ∧ H a = some (.tup xs) ∧ Q .non (upd H x (.ins C dx (putF "parts" (.ref a) fs)))
theorem scInit : FnScope ["self", "told"] ["self", "told"] (defScope sInit) := ⟨rfl, rfl, rfl, by decide +kernel, rfl, by decide +kernel, by decide +kernel⟩
theorem ok_init {f : Addr} {fd : FuncData} (F : Fun K "__init__" "Step.__init__" sInit f fd) (B : mg "tuple" = none) : FnOk P w K mg base CX0 1 f fd ["self", "told"] (spInit K) := by
  refine F.ok scInit (fun vs H Q E h => ?_) (fun cdv A outer s H vs Q E hr h => ?_)
  · obtain ⟨x, C, dx, fs, a, xs, rfl, _⟩ := h
    rfl
  · obtain ⟨x, C, dx, fs, a, xs, rfl, hx, cl, nP, hl, ha, k⟩ := h
    refine ⟨_, pss_one (ps_fld (pv 0) (pe_callTy call_tuple_of rfl B boot_tuple (pa_cons (pv 1) pa_nil)) rfl), ?_⟩
    exact ⟨_, rfl, a, xs, rfl, .inr ⟨SqT.of ha, _, rfl, x, C, dx, fs, rfl, hx, cl, nP, by omega, k⟩⟩
theorem len2 (f : Str) (u : V) : (putF f u []).length < 1000 := by
  have h1 := length_putF f u []
  have h3 : ([] : List (Str × V)).length = 0 := rfl
  omega
theorem len3 (f g : Str) (u v : V) : (putF f u (putF g v [])).length < 1000 := by
  have h1 := length_putF f u (putF g v [])
  have h2 := length_putF g v []
  have h3 : ([] : List (Str × V)).length = 0 := rfl
  omega
/-- Step's own __init__, as the others call it -/
structure InitT (K : PySem.W.Frag) (mg : Str → Option Value) (cS fI : Addr) (fdI : FuncData) : Prop where
  fn : Fun K "__init__" "Step.__init__" sInit fI fdI
  bi : Binds K fdI ["self", "told"] []
  cf : ClsFn K cS "__init__" fI
  at_ : mg "Step" = some (.ref cS)
  tup : mg "tuple" = none
def spI (C : Addr) (f1 f2 : Str) : Sp := fun vs H Q _ => ∃ x dx a xs v1 v2, vs = [.ref x, .ref a] ∧ H x = some (.ins C dx []) ∧ H a = some (.tup xs) ∧ xs[1]? = some v1 ∧ xs[2]? = some v2 ∧
  Q .non (upd H x (.ins C dx (putF f2 v2 (putF f1 v1 (putF "parts" (.ref a) [])))))

theorem scPutI : FnScope ["self", "told"] ["self", "told"] (defScope sPutI) := ⟨rfl, rfl, rfl, by decide +kernel, rfl, by decide +kernel, by decide +kernel⟩
theorem ok_PutI {f fI cS C : Addr} {fd fdI : FuncData} (F : Fun K "__init__" "Put.__init__" sPutI f fd) (I : InitT K mg cS fI fdI) (cl : Cls K C) (nP : NoAttr K C "parts") (n1 : NoAttr K C "reg") (n2 : NoAttr K C "number") :
    FnOk P w K mg base CX0 2 f fd ["self", "told"] (spI C "reg" "number") := by
  have GI : FnOk P w K mg base CX0 1 fI fdI ["self", "told"] (spInit K) := ok_init I.fn I.tup
  refine F.ok scPutI (fun vs H Q E h => ?_) (fun cdv A outer s H vs Q E hr h => ?_)
  · obtain ⟨x, dx, a, xs, v1, v2, rfl, _⟩ := h
    rfl
  · obtain ⟨x, dx, a, xs, v1, v2, rfl, hx, ha, e1, e2, k⟩ := h
    refine ⟨_, pss_cons (ps_expr (pe_clsCall I.cf GI hr rfl I.at_ I.bi .nil pass0 (pa_cons (pv 0) (pa_cons (pv 1) pa_nil))))
      (pss_cons (ps_fld (pv 0) (pe_ix ix_tup (pv 1) pe_int (fun _ _ => rfl)) rfl)
      (pss_one (ps_fld (pv 0) (pe_ix ix_tup (pv 1) pe_int (fun _ _ => rfl)) rfl))), ?_⟩
    have nxa : a ≠ x := ne_of ha hx (by intro z; cases z)
    refine ⟨_, rfl, _, rfl, x, C, dx, [], a, xs, rfl, hx, cl, nP, by decide, ha, ?_⟩
    refine ⟨_, rfl, a, xs, 1, v1, rfl, rfl, SqT.of (by rw [upd_ne nxa]; exact ha), atI_nat (j := 1) e1, _, rfl, x, C, dx, _, rfl, upd_same, cl, n1, len2 _ _, ?_⟩
    refine ⟨_, rfl, a, xs, 2, v2, rfl, rfl, SqT.of (by rw [upd_ne nxa, upd_ne nxa]; exact ha), atI_nat (j := 2) e2, _, rfl, x, C, dx, _, rfl, upd_same, cl, n2, len3 _ _ _ _, ?_⟩
    rw [upd_upd, upd_upd]
    exact k

theorem scAddI : FnScope ["self", "told"] ["self", "told"] (defScope sAddI) := ⟨rfl, rfl, rfl, by decide +kernel, rfl, by decide +kernel, by decide +kernel⟩
theorem ok_AddI {f fI cS C : Addr} {fd fdI : FuncData} (F : Fun K "__init__" "Add.__init__" sAddI f fd) (I : InitT K mg cS fI fdI) (cl : Cls K C) (nP : NoAttr K C "parts") (n1 : NoAttr K C "reg") (n2 : NoAttr K C "other") :
    FnOk P w K mg base CX0 2 f fd ["self", "told"] (spI C "reg" "other") := by
  have GI : FnOk P w K mg base CX0 1 fI fdI ["self", "told"] (spInit K) := ok_init I.fn I.tup
  refine F.ok scAddI (fun vs H Q E h => ?_) (fun cdv A outer s H vs Q E hr h => ?_)
  · obtain ⟨x, dx, a, xs, v1, v2, rfl, _⟩ := h
    rfl
  · obtain ⟨x, dx, a, xs, v1, v2, rfl, hx, ha, e1, e2, k⟩ := h
    refine ⟨_, pss_cons (ps_expr (pe_clsCall I.cf GI hr rfl I.at_ I.bi .nil pass0 (pa_cons (pv 0) (pa_cons (pv 1) pa_nil))))
      (pss_cons (ps_fld (pv 0) (pe_ix ix_tup (pv 1) pe_int (fun _ _ => rfl)) rfl)
      (pss_one (ps_fld (pv 0) (pe_ix ix_tup (pv 1) pe_int (fun _ _ => rfl)) rfl))), ?_⟩
    have nxa : a ≠ x := ne_of ha hx (by intro z; cases z)
    refine ⟨_, rfl, _, rfl, x, C, dx, [], a, xs, rfl, hx, cl, nP, by decide, ha, ?_⟩
    refine ⟨_, rfl, a, xs, 1, v1, rfl, rfl, SqT.of (by rw [upd_ne nxa]; exact ha), atI_nat (j := 1) e1, _, rfl, x, C, dx, _, rfl, upd_same, cl, n1, len2 _ _, ?_⟩
    refine ⟨_, rfl, a, xs, 2, v2, rfl, rfl, SqT.of (by rw [upd_ne nxa, upd_ne nxa]; exact ha), atI_nat (j := 2) e2, _, rfl, x, C, dx, _, rfl, upd_same, cl, n2, len3 _ _ _ _, ?_⟩
    rw [upd_upd, upd_upd]
    exact k

theorem scSetI : FnScope ["self", "told"] ["self", "told"] (defScope sSetI) := ⟨rfl, rfl, rfl, by decide +kernel, rfl, by decide +kernel, by decide +kernel⟩
theorem ok_SetI {f fI cS C : Addr} {fd fdI : FuncData} (F : Fun K "__init__" "Set.__init__" sSetI f fd) (I : InitT K mg cS fI fdI) (cl : Cls K C) (nP : NoAttr K C "parts") (n1 : NoAttr K C "name") (n2 : NoAttr K C "reg") :
    FnOk P w K mg base CX0 2 f fd ["self", "told"] (spI C "name" "reg") := by
  have GI : FnOk P w K mg base CX0 1 fI fdI ["self", "told"] (spInit K) := ok_init I.fn I.tup
  refine F.ok scSetI (fun vs H Q E h => ?_) (fun cdv A outer s H vs Q E hr h => ?_)
  · obtain ⟨x, dx, a, xs, v1, v2, rfl, _⟩ := h
    rfl
  · obtain ⟨x, dx, a, xs, v1, v2, rfl, hx, ha, e1, e2, k⟩ := h
    refine ⟨_, pss_cons (ps_expr (pe_clsCall I.cf GI hr rfl I.at_ I.bi .nil pass0 (pa_cons (pv 0) (pa_cons (pv 1) pa_nil))))
      (pss_cons (ps_fld (pv 0) (pe_ix ix_tup (pv 1) pe_int (fun _ _ => rfl)) rfl)
      (pss_one (ps_fld (pv 0) (pe_ix ix_tup (pv 1) pe_int (fun _ _ => rfl)) rfl))), ?_⟩
    have nxa : a ≠ x := ne_of ha hx (by intro z; cases z)
    refine ⟨_, rfl, _, rfl, x, C, dx, [], a, xs, rfl, hx, cl, nP, by decide, ha, ?_⟩
    refine ⟨_, rfl, a, xs, 1, v1, rfl, rfl, SqT.of (by rw [upd_ne nxa]; exact ha), atI_nat (j := 1) e1, _, rfl, x, C, dx, _, rfl, upd_same, cl, n1, len2 _ _, ?_⟩
    refine ⟨_, rfl, a, xs, 2, v2, rfl, rfl, SqT.of (by rw [upd_ne nxa, upd_ne nxa]; exact ha), atI_nat (j := 2) e2, _, rfl, x, C, dx, _, rfl, upd_same, cl, n2, len3 _ _ _ _, ?_⟩
    rw [upd_upd, upd_upd]
    exact k

theorem scLookI : FnScope ["self", "told"] ["self", "told"] (defScope sLookI) := ⟨rfl, rfl, rfl, by decide +kernel, rfl, by decide +kernel, by decide +kernel⟩
theorem ok_LookI {f fI cS C : Addr} {fd fdI : FuncData} (F : Fun K "__init__" "Look.__init__" sLookI f fd) (I : InitT K mg cS fI fdI) (cl : Cls K C) (nP : NoAttr K C "parts") (n1 : NoAttr K C "reg") (n2 : NoAttr K C "name") :
    FnOk P w K mg base CX0 2 f fd ["self", "told"] (spI C "reg" "name") := by
  have GI : FnOk P w K mg base CX0 1 fI fdI ["self", "told"] (spInit K) := ok_init I.fn I.tup
  refine F.ok scLookI (fun vs H Q E h => ?_) (fun cdv A outer s H vs Q E hr h => ?_)
  · obtain ⟨x, dx, a, xs, v1, v2, rfl, _⟩ := h
    rfl
  · obtain ⟨x, dx, a, xs, v1, v2, rfl, hx, ha, e1, e2, k⟩ := h
    refine ⟨_, pss_cons (ps_expr (pe_clsCall I.cf GI hr rfl I.at_ I.bi .nil pass0 (pa_cons (pv 0) (pa_cons (pv 1) pa_nil))))
      (pss_cons (ps_fld (pv 0) (pe_ix ix_tup (pv 1) pe_int (fun _ _ => rfl)) rfl)
      (pss_one (ps_fld (pv 0) (pe_ix ix_tup (pv 1) pe_int (fun _ _ => rfl)) rfl))), ?_⟩
    have nxa : a ≠ x := ne_of ha hx (by intro z; cases z)
    refine ⟨_, rfl, _, rfl, x, C, dx, [], a, xs, rfl, hx, cl, nP, by decide, ha, ?_⟩
    refine ⟨_, rfl, a, xs, 1, v1, rfl, rfl, SqT.of (by rw [upd_ne nxa]; exact ha), atI_nat (j := 1) e1, _, rfl, x, C, dx, _, rfl, upd_same, cl, n1, len2 _ _, ?_⟩
    refine ⟨_, rfl, a, xs, 2, v2, rfl, rfl, SqT.of (by rw [upd_ne nxa, upd_ne nxa]; exact ha), atI_nat (j := 2) e2, _, rfl, x, C, dx, _, rfl, upd_same, cl, n2, len3 _ _ _ _, ?_⟩
    rw [upd_upd, upd_upd]
    exact k

theorem scSwapI : FnScope ["self", "told"] ["self", "told"] (defScope sSwapI) := ⟨rfl, rfl, rfl, by decide +kernel, rfl, by decide +kernel, by decide +kernel⟩
theorem ok_SwapI {f fI cS C : Addr} {fd fdI : FuncData} (F : Fun K "__init__" "Swap.__init__" sSwapI f fd) (I : InitT K mg cS fI fdI) (cl : Cls K C) (nP : NoAttr K C "parts") (n1 : NoAttr K C "reg") (n2 : NoAttr K C "name") :
    FnOk P w K mg base CX0 2 f fd ["self", "told"] (spI C "reg" "name") := by
  have GI : FnOk P w K mg base CX0 1 fI fdI ["self", "told"] (spInit K) := ok_init I.fn I.tup
  refine F.ok scSwapI (fun vs H Q E h => ?_) (fun cdv A outer s H vs Q E hr h => ?_)
  · obtain ⟨x, dx, a, xs, v1, v2, rfl, _⟩ := h
    rfl
  · obtain ⟨x, dx, a, xs, v1, v2, rfl, hx, ha, e1, e2, k⟩ := h
    refine ⟨_, pss_cons (ps_expr (pe_clsCall I.cf GI hr rfl I.at_ I.bi .nil pass0 (pa_cons (pv 0) (pa_cons (pv 1) pa_nil))))
      (pss_cons (ps_fld (pv 0) (pe_ix ix_tup (pv 1) pe_int (fun _ _ => rfl)) rfl)
      (pss_one (ps_fld (pv 0) (pe_ix ix_tup (pv 1) pe_int (fun _ _ => rfl)) rfl))), ?_⟩
    have nxa : a ≠ x := ne_of ha hx (by intro z; cases z)
    refine ⟨_, rfl, _, rfl, x, C, dx, [], a, xs, rfl, hx, cl, nP, by decide, ha, ?_⟩
    refine ⟨_, rfl, a, xs, 1, v1, rfl, rfl, SqT.of (by rw [upd_ne nxa]; exact ha), atI_nat (j := 1) e1, _, rfl, x, C, dx, _, rfl, upd_same, cl, n1, len2 _ _, ?_⟩
    refine ⟨_, rfl, a, xs, 2, v2, rfl, rfl, SqT.of (by rw [upd_ne nxa, upd_ne nxa]; exact ha), atI_nat (j := 2) e2, _, rfl, x, C, dx, _, rfl, upd_same, cl, n2, len3 _ _ _ _, ?_⟩
    rw [upd_upd, upd_upd]
    exact k

theorem scSkipI : FnScope ["self", "told"] ["self", "told"] (defScope sSkipI) := ⟨rfl, rfl, rfl, by decide +kernel, rfl, by decide +kernel, by decide +kernel⟩
theorem ok_SkipI {f fI cS C : Addr} {fd fdI : FuncData} (F : Fun K "__init__" "Skip.__init__" sSkipI f fd) (I : InitT K mg cS fI fdI) (cl : Cls K C) (nP : NoAttr K C "parts") (n1 : NoAttr K C "reg") (n2 : NoAttr K C "place") :
    FnOk P w K mg base CX0 2 f fd ["self", "told"] (spI C "reg" "place") := by
  have GI : FnOk P w K mg base CX0 1 fI fdI ["self", "told"] (spInit K) := ok_init I.fn I.tup
  refine F.ok scSkipI (fun vs H Q E h => ?_) (fun cdv A outer s H vs Q E hr h => ?_)
  · obtain ⟨x, dx, a, xs, v1, v2, rfl, _⟩ := h
    rfl
  · obtain ⟨x, dx, a, xs, v1, v2, rfl, hx, ha, e1, e2, k⟩ := h
    refine ⟨_, pss_cons (ps_expr (pe_clsCall I.cf GI hr rfl I.at_ I.bi .nil pass0 (pa_cons (pv 0) (pa_cons (pv 1) pa_nil))))
      (pss_cons (ps_fld (pv 0) (pe_ix ix_tup (pv 1) pe_int (fun _ _ => rfl)) rfl)
      (pss_one (ps_fld (pv 0) (pe_ix ix_tup (pv 1) pe_int (fun _ _ => rfl)) rfl))), ?_⟩
    have nxa : a ≠ x := ne_of ha hx (by intro z; cases z)
    refine ⟨_, rfl, _, rfl, x, C, dx, [], a, xs, rfl, hx, cl, nP, by decide, ha, ?_⟩
    refine ⟨_, rfl, a, xs, 1, v1, rfl, rfl, SqT.of (by rw [upd_ne nxa]; exact ha), atI_nat (j := 1) e1, _, rfl, x, C, dx, _, rfl, upd_same, cl, n1, len2 _ _, ?_⟩
    refine ⟨_, rfl, a, xs, 2, v2, rfl, rfl, SqT.of (by rw [upd_ne nxa, upd_ne nxa]; exact ha), atI_nat (j := 2) e2, _, rfl, x, C, dx, _, rfl, upd_same, cl, n2, len3 _ _ _ _, ?_⟩
    rw [upd_upd, upd_upd]
    exact k

structure Adr where
  (fW fB fS fO fI fPut fAdd fSet fLook fSwap fSkip cStep cPut cAdd cSet cLook cSwap cClear cSkip : Addr)
  (fdW fdB fdS fdO fdI fdPut fdAdd fdSet fdLook fdSwap fdSkip : FuncData)
structure StepsT (K : PySem.W.Frag) (mg : Str → Option Value) (t : Adr) : Prop where
  bl : Bl mg
  cn : Cn mg
  fnW : Fun K "is_whole" "is_whole" sWhole t.fW t.fdW
  bW : Binds K t.fdW ["thing"] []
  mW : mg "is_whole" = some (.ref t.fW)
  fnB : Fun K "bounds_of" "bounds_of" sBounds t.fB t.fdB
  bB : Binds K t.fdB ["word"] []
  mB : mg "bounds_of" = some (.ref t.fB)
  fnS : Fun K "is_step" "is_step" sIsStep t.fS t.fdS
  bS : Binds K t.fdS ["told"] []
  mS : mg "is_step" = some (.ref t.fS)
  fnO : Fun K "step_of" "step_of" sStepOf t.fO t.fdO
  bO : Binds K t.fdO ["told"] []
  mO : mg "step_of" = some (.ref t.fO)
  init : InitT K mg t.cStep t.fI t.fdI
  clClear : Cls K t.cClear
  nPClear : NoAttr K t.cClear "parts"
  mkClear : Mk K t.cClear t.fI
  mgClear : mg "Clear" = some (.ref t.cClear)
  clPut : Cls K t.cPut
  nPPut : NoAttr K t.cPut "parts"
  n1Put : NoAttr K t.cPut "reg"
  n2Put : NoAttr K t.cPut "number"
  mkPut : Mk K t.cPut t.fPut
  mgPut : mg "Put" = some (.ref t.cPut)
  fnPut : Fun K "__init__" "Put.__init__" sPutI t.fPut t.fdPut
  biPut : Binds K t.fdPut ["self", "told"] []
  clAdd : Cls K t.cAdd
  nPAdd : NoAttr K t.cAdd "parts"
  n1Add : NoAttr K t.cAdd "reg"
  n2Add : NoAttr K t.cAdd "other"
  mkAdd : Mk K t.cAdd t.fAdd
  mgAdd : mg "Add" = some (.ref t.cAdd)
  fnAdd : Fun K "__init__" "Add.__init__" sAddI t.fAdd t.fdAdd
  biAdd : Binds K t.fdAdd ["self", "told"] []
  clSet : Cls K t.cSet
  nPSet : NoAttr K t.cSet "parts"
  n1Set : NoAttr K t.cSet "name"
  n2Set : NoAttr K t.cSet "reg"
  mkSet : Mk K t.cSet t.fSet
  mgSet : mg "Set" = some (.ref t.cSet)
  fnSet : Fun K "__init__" "Set.__init__" sSetI t.fSet t.fdSet
  biSet : Binds K t.fdSet ["self", "told"] []
  clLook : Cls K t.cLook
  nPLook : NoAttr K t.cLook "parts"
  n1Look : NoAttr K t.cLook "reg"
  n2Look : NoAttr K t.cLook "name"
  mkLook : Mk K t.cLook t.fLook
  mgLook : mg "Look" = some (.ref t.cLook)
  fnLook : Fun K "__init__" "Look.__init__" sLookI t.fLook t.fdLook
  biLook : Binds K t.fdLook ["self", "told"] []
  clSwap : Cls K t.cSwap
  nPSwap : NoAttr K t.cSwap "parts"
  n1Swap : NoAttr K t.cSwap "reg"
  n2Swap : NoAttr K t.cSwap "name"
  mkSwap : Mk K t.cSwap t.fSwap
  mgSwap : mg "Swap" = some (.ref t.cSwap)
  fnSwap : Fun K "__init__" "Swap.__init__" sSwapI t.fSwap t.fdSwap
  biSwap : Binds K t.fdSwap ["self", "told"] []
  clSkip : Cls K t.cSkip
  nPSkip : NoAttr K t.cSkip "parts"
  n1Skip : NoAttr K t.cSkip "reg"
  n2Skip : NoAttr K t.cSkip "place"
  mkSkip : Mk K t.cSkip t.fSkip
  mgSkip : mg "Skip" = some (.ref t.cSkip)
  fnSkip : Fun K "__init__" "Skip.__init__" sSkipI t.fSkip t.fdSkip
  biSkip : Binds K t.fdSkip ["self", "told"] []

def clsW (t : Adr) (x : Str) : Addr := if x = "put" then t.cPut else if x = "add" then t.cAdd else if x = "set" then t.cSet else if x = "look" then t.cLook else if x = "swap" then t.cSwap else if x = "clear" then t.cClear else t.cSkip
def fldsW (v : V) (x : Str) (ps : List V) : List (Str × V) :=
  if x = "put" then putF "number" (ps.getD 1 .non) (putF "reg" (ps.getD 0 .non) (putF "parts" v []))
  else if x = "add" then putF "other" (ps.getD 1 .non) (putF "reg" (ps.getD 0 .non) (putF "parts" v []))
  else if x = "set" then putF "reg" (ps.getD 1 .non) (putF "name" (ps.getD 0 .non) (putF "parts" v []))
  else if x = "look" then putF "name" (ps.getD 1 .non) (putF "reg" (ps.getD 0 .non) (putF "parts" v []))
  else if x = "swap" then putF "name" (ps.getD 1 .non) (putF "reg" (ps.getD 0 .non) (putF "parts" v []))
  else if x = "clear" then putF "parts" v []
  else putF "place" (ps.getD 1 .non) (putF "reg" (ps.getD 0 .non) (putF "parts" v []))
theorem two_of {x : Str} {ps : List V} (h : stepOk (.str x :: ps) = true) {b c : Int} {bs : List Int} (hb : boundsM x = some bs) (hl : bs = [b, c] := by rfl) : ∃ v1 v2, ps = [v1, v2] := by
  subst hl
  have h' : (match boundsM x with | none => false | some bs => decide (ps.length = bs.length) && (ps.zip bs).all fun p => wIn p.1 p.2) = true := h
  rw [hb] at h'
  simp only [Bool.and_eq_true, decide_eq_true_eq] at h'
  match ps, h'.1 with
  | [v1, v2], _ => exact ⟨v1, v2, rfl⟩
theorem last_word {x : Str} {ps : List V} (h : stepOk (.str x :: ps) = true) (n1 : ¬ x = "put") (n2 : ¬ x = "add") (n3 : ¬ x = "set") (n4 : ¬ x = "look") (n5 : ¬ x = "swap") (n6 : ¬ x = "clear") : x = "skip" := by
  apply Classical.byContradiction
  intro n7
  have e : boundsM x = none := by
    unfold boundsM
    rw [if_neg n1, if_neg n2, if_neg n3, if_neg n4, if_neg n5, if_neg n6, if_neg n7]
  have h' : (match boundsM x with | none => false | some bs => decide (ps.length = bs.length) && (ps.zip bs).all fun p => wIn p.1 p.2) = true := h
  rw [e] at h'
  cases h'
def spStepOf (t : Adr) : Sp := fun vs H Q _ => ∃ a x ps, vs = [.ref a] ∧ H a = some (.tup (.str x :: ps)) ∧ stepOk (.str x :: ps) = true ∧ (ps.length ≤ 900 ∧ ∀ y ∈ ps, ∃ T, tyName H y = some T) ∧
  ∀ z dx H', Same H H' → H z = none → H' z = some (.ins (clsW t x) dx (fldsW (.ref a) x ps)) → Q (.ref z) H'
theorem scStepOf : FnScope ["told", "word"] ["told"] (defScope sStepOf) := ⟨rfl, rfl, rfl, by decide +kernel, rfl, by decide +kernel, by decide +kernel⟩
theorem ok_stepOf {t : Adr} (T : StepsT K mg t) : FnOk P w K mg base CX0 4 t.fO t.fdO ["told"] (spStepOf t) := by
  have GS : FnOk P w K mg base CX0 2 t.fS t.fdS ["told"] spIsStep := ok_isStep T.fnS T.bl T.cn T.fnW T.bW T.mW T.fnB T.bB T.mB
  have GI : FnOk P w K mg base CX0 1 t.fI t.fdI ["self", "told"] (spInit K) := ok_init T.init.fn T.init.tup
  have GPut : FnOk P w K mg base CX0 2 t.fPut t.fdPut ["self", "told"] (spI t.cPut "reg" "number") := ok_PutI T.fnPut T.init T.clPut T.nPPut T.n1Put T.n2Put
  have GAdd : FnOk P w K mg base CX0 2 t.fAdd t.fdAdd ["self", "told"] (spI t.cAdd "reg" "other") := ok_AddI T.fnAdd T.init T.clAdd T.nPAdd T.n1Add T.n2Add
  have GSet : FnOk P w K mg base CX0 2 t.fSet t.fdSet ["self", "told"] (spI t.cSet "name" "reg") := ok_SetI T.fnSet T.init T.clSet T.nPSet T.n1Set T.n2Set
  have GLook : FnOk P w K mg base CX0 2 t.fLook t.fdLook ["self", "told"] (spI t.cLook "reg" "name") := ok_LookI T.fnLook T.init T.clLook T.nPLook T.n1Look T.n2Look
  have GSwap : FnOk P w K mg base CX0 2 t.fSwap t.fdSwap ["self", "told"] (spI t.cSwap "reg" "name") := ok_SwapI T.fnSwap T.init T.clSwap T.nPSwap T.n1Swap T.n2Swap
  have GSkip : FnOk P w K mg base CX0 2 t.fSkip t.fdSkip ["self", "told"] (spI t.cSkip "reg" "place") := ok_SkipI T.fnSkip T.init T.clSkip T.nPSkip T.n1Skip T.n2Skip
  refine T.fnO.ok scStepOf (fun vs H Q E h => ?_) (fun cdv A outer s H vs Q E hr h => ?_)
  · obtain ⟨a, x, ps, rfl, _⟩ := h
    rfl
  · obtain ⟨a, x0, ps, rfl, ha, hk, ⟨hl, hty⟩, k⟩ := h
    have nn : ∀ {y : Str}, ¬ V.str x0 = V.str y → ¬ x0 = y := fun h e => h (by rw [e])
    refine ⟨_, (pss_cons (ps_if (pt_not (pt_val (pe_call GS (hr.mono (by decide)) rfl T.mS T.fnS.kp T.bS .nil pass0 (pa_cons (pv 0) pa_nil)))) pss_never pss_nil)
      (pss_cons (ps_set (i := 1) scStepOf.nd rfl (Or.inl rfl) (pe_ix ix_tup (pv 0) pe_int (fun _ _ => rfl)))
      (pss_cons (ps_if (pt_cmpR op_eq (pv 1) pe_str (nomark _)) (pss_one (ps_ret (pe_make T.mkPut GPut hr rfl T.mgPut T.biPut .nil pass0 (pa_cons (pv 0) pa_nil)))) pss_nil)
      (pss_cons (ps_if (pt_cmpR op_eq (pv 1) pe_str (nomark _)) (pss_one (ps_ret (pe_make T.mkAdd GAdd hr rfl T.mgAdd T.biAdd .nil pass0 (pa_cons (pv 0) pa_nil)))) pss_nil)
      (pss_cons (ps_if (pt_cmpR op_eq (pv 1) pe_str (nomark _)) (pss_one (ps_ret (pe_make T.mkSet GSet hr rfl T.mgSet T.biSet .nil pass0 (pa_cons (pv 0) pa_nil)))) pss_nil)
      (pss_cons (ps_if (pt_cmpR op_eq (pv 1) pe_str (nomark _)) (pss_one (ps_ret (pe_make T.mkLook GLook hr rfl T.mgLook T.biLook .nil pass0 (pa_cons (pv 0) pa_nil)))) pss_nil)
      (pss_cons (ps_if (pt_cmpR op_eq (pv 1) pe_str (nomark _)) (pss_one (ps_ret (pe_make T.mkSwap GSwap hr rfl T.mgSwap T.biSwap .nil pass0 (pa_cons (pv 0) pa_nil)))) pss_nil)
      (pss_cons (ps_if (pt_cmpR op_eq (pv 1) pe_str (nomark _)) (pss_one (ps_ret (pe_make T.mkClear GI (hr.mono (by decide)) rfl T.mgClear T.init.bi .nil pass0 (pa_cons (pv 0) pa_nil)))) pss_nil)
      (pss_one (ps_ret (pe_make T.mkSkip GSkip hr rfl T.mgSkip T.biSkip .nil pass0 (pa_cons (pv 0) pa_nil)))))))))))), ?_⟩
    refine ⟨_, rfl, _, _, rfl, tyName_tup ha, (fun xs hv => ?_), fun H1 hS => ?_⟩
    · rw [viewT_of ha] at hv
      cases hv
      refine ⟨by simp only [List.length_cons]; omega, fun y hy => ?_⟩
      rcases List.mem_cons.mp hy with e | hy
      · subst e; exact ⟨_, rfl⟩
      · exact hty y hy
    have hst : isStep H (.ref a) = true := by unfold isStep; rw [viewT_of ha]; exact hk
    rw [hst]
    refine ⟨_, rfl, iteF ?_⟩
    refine ⟨_, rfl, a, _, 0, .str x0, rfl, rfl, SqT.of (hS _ _ ha), atI_nat (j := 0) rfl, ?_⟩
    refine ⟨_, rfl, rfl, _, rfl, iteD (fun e => ?_) (fun n1 => ?_)⟩
    · cases str_inj e
      obtain ⟨v1, v2, hps⟩ := two_of hk (bs := [4, TOPi]) (by unfold boundsM; rw [if_pos rfl])
      subst hps
      refine ⟨_, rfl, fun x dx nx ndx nex => ⟨x, dx, a, [.str "put", v1, v2], v1, v2, rfl, upd_same, ?_, rfl, rfl, rfl, ?_⟩⟩
      · rw [upd_ne (ne_of_none (hS _ _ ha) nx), upd_ne (ne_of_none (hS _ _ ha) ndx)]; exact hS _ _ ha
      · refine k x dx _ (fun b o q => ?_) (hS.free nx) (by rw [upd_same]; rfl)
        rw [upd_ne (ne_of_none (hS b o q) nx), upd_ne (ne_of_none (hS b o q) nx), upd_ne (ne_of_none (hS b o q) ndx)]; exact hS b o q
    refine ⟨_, rfl, rfl, _, rfl, iteD (fun e => ?_) (fun n2 => ?_)⟩
    · cases str_inj e
      obtain ⟨v1, v2, hps⟩ := two_of hk (bs := [4, 4]) (by unfold boundsM; rw [if_neg (by decide +kernel), if_pos rfl])
      subst hps
      refine ⟨_, rfl, fun x dx nx ndx nex => ⟨x, dx, a, [.str "add", v1, v2], v1, v2, rfl, upd_same, ?_, rfl, rfl, rfl, ?_⟩⟩
      · rw [upd_ne (ne_of_none (hS _ _ ha) nx), upd_ne (ne_of_none (hS _ _ ha) ndx)]; exact hS _ _ ha
      · refine k x dx _ (fun b o q => ?_) (hS.free nx) (by rw [upd_same]; rfl)
        rw [upd_ne (ne_of_none (hS b o q) nx), upd_ne (ne_of_none (hS b o q) nx), upd_ne (ne_of_none (hS b o q) ndx)]; exact hS b o q
    refine ⟨_, rfl, rfl, _, rfl, iteD (fun e => ?_) (fun n3 => ?_)⟩
    · cases str_inj e
      obtain ⟨v1, v2, hps⟩ := two_of hk (bs := [12, 4]) (by unfold boundsM; rw [if_neg (by decide +kernel), if_neg (by decide +kernel), if_pos rfl])
      subst hps
      refine ⟨_, rfl, fun x dx nx ndx nex => ⟨x, dx, a, [.str "set", v1, v2], v1, v2, rfl, upd_same, ?_, rfl, rfl, rfl, ?_⟩⟩
      · rw [upd_ne (ne_of_none (hS _ _ ha) nx), upd_ne (ne_of_none (hS _ _ ha) ndx)]; exact hS _ _ ha
      · refine k x dx _ (fun b o q => ?_) (hS.free nx) (by rw [upd_same]; rfl)
        rw [upd_ne (ne_of_none (hS b o q) nx), upd_ne (ne_of_none (hS b o q) nx), upd_ne (ne_of_none (hS b o q) ndx)]; exact hS b o q
    refine ⟨_, rfl, rfl, _, rfl, iteD (fun e => ?_) (fun n4 => ?_)⟩
    · cases str_inj e
      obtain ⟨v1, v2, hps⟩ := two_of hk (bs := [4, 12]) (by unfold boundsM; rw [if_neg (by decide +kernel), if_neg (by decide +kernel), if_neg (by decide +kernel), if_pos rfl])
      subst hps
      refine ⟨_, rfl, fun x dx nx ndx nex => ⟨x, dx, a, [.str "look", v1, v2], v1, v2, rfl, upd_same, ?_, rfl, rfl, rfl, ?_⟩⟩
      · rw [upd_ne (ne_of_none (hS _ _ ha) nx), upd_ne (ne_of_none (hS _ _ ha) ndx)]; exact hS _ _ ha
      · refine k x dx _ (fun b o q => ?_) (hS.free nx) (by rw [upd_same]; rfl)
        rw [upd_ne (ne_of_none (hS b o q) nx), upd_ne (ne_of_none (hS b o q) nx), upd_ne (ne_of_none (hS b o q) ndx)]; exact hS b o q
    refine ⟨_, rfl, rfl, _, rfl, iteD (fun e => ?_) (fun n5 => ?_)⟩
    · cases str_inj e
      obtain ⟨v1, v2, hps⟩ := two_of hk (bs := [4, 12]) (by unfold boundsM; rw [if_neg (by decide +kernel), if_neg (by decide +kernel), if_neg (by decide +kernel), if_neg (by decide +kernel), if_pos rfl])
      subst hps
      refine ⟨_, rfl, fun x dx nx ndx nex => ⟨x, dx, a, [.str "swap", v1, v2], v1, v2, rfl, upd_same, ?_, rfl, rfl, rfl, ?_⟩⟩
      · rw [upd_ne (ne_of_none (hS _ _ ha) nx), upd_ne (ne_of_none (hS _ _ ha) ndx)]; exact hS _ _ ha
      · refine k x dx _ (fun b o q => ?_) (hS.free nx) (by rw [upd_same]; rfl)
        rw [upd_ne (ne_of_none (hS b o q) nx), upd_ne (ne_of_none (hS b o q) nx), upd_ne (ne_of_none (hS b o q) ndx)]; exact hS b o q
    refine ⟨_, rfl, rfl, _, rfl, iteD (fun e => ?_) (fun n6 => ?_)⟩
    · cases str_inj e
      refine ⟨_, rfl, fun x dx nx ndx nex => ⟨x, t.cClear, dx, [], a, .str "clear" :: ps, rfl, upd_same, T.clClear, T.nPClear, by decide, ?_, rfl, ?_⟩⟩
      · rw [upd_ne (ne_of_none (hS _ _ ha) nx), upd_ne (ne_of_none (hS _ _ ha) ndx)]; exact hS _ _ ha
      · refine k x dx _ (fun b o q => ?_) (hS.free nx) (by rw [upd_same]; rfl)
        rw [upd_ne (ne_of_none (hS b o q) nx), upd_ne (ne_of_none (hS b o q) nx), upd_ne (ne_of_none (hS b o q) ndx)]; exact hS b o q
    have hskip : x0 = "skip" := last_word hk (nn n1) (nn n2) (nn n3) (nn n4) (nn n5) (nn n6)
    subst hskip
    obtain ⟨v1, v2, hps⟩ := two_of hk (bs := [4, 121]) (by unfold boundsM; rw [if_neg (by decide +kernel), if_neg (by decide +kernel), if_neg (by decide +kernel), if_neg (by decide +kernel), if_neg (by decide +kernel), if_neg (by decide +kernel), if_pos rfl])
    subst hps
    refine ⟨_, rfl, fun x dx nx ndx nex => ⟨x, dx, a, [.str "skip", v1, v2], v1, v2, rfl, upd_same, ?_, rfl, rfl, rfl, ?_⟩⟩
    · rw [upd_ne (ne_of_none (hS _ _ ha) nx), upd_ne (ne_of_none (hS _ _ ha) ndx)]; exact hS _ _ ha
    · refine k x dx _ (fun b o q => ?_) (hS.free nx) (by rw [upd_same]; rfl)
      rw [upd_ne (ne_of_none (hS b o q) nx), upd_ne (ne_of_none (hS b o q) nx), upd_ne (ne_of_none (hS b o q) ndx)]; exact hS b o q
end
end TL


namespace TL
open PySem PySem.Spec PyProof.Rows PySem.SeqAt L2 L3
section
variable {P : Program} {w : World} {K : PySem.W.Frag} {mg : Str → Option Value} {base : Heap}
theorem step_view {H : Hp} {v : V} (h : isStep H v = true) : ∃ a x ps, v = .ref a ∧ H a = some (.tup (.str x :: ps)) ∧ stepOk (.str x :: ps) = true := by
  unfold isStep at h
  cases e : viewT H v with
  | none => rw [e] at h; cases h
  | some xs =>
    rw [e] at h
    obtain ⟨a, rfl, ha⟩ := viewT_ref e
    match xs, h, ha with
    | .str x :: ps, h, ha => exact ⟨a, x, ps, rfl, ha, h⟩
/-- step_of: a step, or NoStep -/
def spStepX (t : Adr) (cN : Addr) : Sp := fun vs H Q E => ∃ v T, vs = [v] ∧ tyName H v = some T ∧ (∀ xs, viewT H v = some xs → xs.length ≤ 1000 ∧ ∀ x ∈ xs, ∃ T, tyName H x = some T) ∧
  (∀ a x ps, v = .ref a → H a = some (.tup (.str x :: ps)) → stepOk (.str x :: ps) = true → ∀ z dx H', Same H H' → H z = none → H' z = some (.ins (clsW t x) dx (fldsW (.ref a) x ps)) → Q (.ref z) H') ∧
  (isStep H v = false → ∀ H', Same H H' → E (.ref cN) none H')
theorem ok_stepX {t : Adr} {cN : Addr} (T : StepsT K mg t) (xc : XC K cN) (mX : mg "NoStep" = some (.ref cN)) : FnOk P w K mg base (CXE P w) 4 t.fO t.fdO ["told"] (spStepX t cN) := by
  have GS : FnOk P w K mg base CX0 2 t.fS t.fdS ["told"] spIsStep := ok_isStep T.fnS T.bl T.cn T.fnW T.bW T.mW T.fnB T.bB T.mB
  have GI : FnOk P w K mg base CX0 1 t.fI t.fdI ["self", "told"] (spInit K) := ok_init T.init.fn T.init.tup
  have GPut : FnOk P w K mg base CX0 2 t.fPut t.fdPut ["self", "told"] (spI t.cPut "reg" "number") := ok_PutI T.fnPut T.init T.clPut T.nPPut T.n1Put T.n2Put
  have GAdd : FnOk P w K mg base CX0 2 t.fAdd t.fdAdd ["self", "told"] (spI t.cAdd "reg" "other") := ok_AddI T.fnAdd T.init T.clAdd T.nPAdd T.n1Add T.n2Add
  have GSet : FnOk P w K mg base CX0 2 t.fSet t.fdSet ["self", "told"] (spI t.cSet "name" "reg") := ok_SetI T.fnSet T.init T.clSet T.nPSet T.n1Set T.n2Set
  have GLook : FnOk P w K mg base CX0 2 t.fLook t.fdLook ["self", "told"] (spI t.cLook "reg" "name") := ok_LookI T.fnLook T.init T.clLook T.nPLook T.n1Look T.n2Look
  have GSwap : FnOk P w K mg base CX0 2 t.fSwap t.fdSwap ["self", "told"] (spI t.cSwap "reg" "name") := ok_SwapI T.fnSwap T.init T.clSwap T.nPSwap T.n1Swap T.n2Swap
  have GSkip : FnOk P w K mg base CX0 2 t.fSkip t.fdSkip ["self", "told"] (spI t.cSkip "reg" "place") := ok_SkipI T.fnSkip T.init T.clSkip T.nPSkip T.n1Skip T.n2Skip
  refine T.fnO.okX scStepOf (fun vs H Q E h => ?_) (fun cdv A outer s H vs Q E hr hL hp h => ?_)
  · obtain ⟨v, T, rfl, _⟩ := h
    rfl
  · obtain ⟨v0, Ty, rfl, hTy, hvw, k', kx⟩ := h
    refine ⟨_, (pss_cons (ps_if (pt_not (pt_val (pe_call GS (hr.mono (by decide)) rfl T.mS T.fnS.kp T.bS .nil pass0 (pa_cons (pv 0) pa_nil)))) (pss_one (ps_raise rfl hL xc rfl mX (pa_cons pe_str pa_nil))) pss_nil)
      (pss_cons (ps_set (i := 1) scStepOf.nd rfl (Or.inl rfl) (pe_ix ix_tup (pv 0) pe_int (fun _ _ => rfl)))
      (pss_cons (ps_if (pt_cmpR op_eq (pv 1) pe_str (nomark _)) (pss_one (ps_ret (pe_make T.mkPut GPut hr rfl T.mgPut T.biPut .nil pass0 (pa_cons (pv 0) pa_nil)))) pss_nil)
      (pss_cons (ps_if (pt_cmpR op_eq (pv 1) pe_str (nomark _)) (pss_one (ps_ret (pe_make T.mkAdd GAdd hr rfl T.mgAdd T.biAdd .nil pass0 (pa_cons (pv 0) pa_nil)))) pss_nil)
      (pss_cons (ps_if (pt_cmpR op_eq (pv 1) pe_str (nomark _)) (pss_one (ps_ret (pe_make T.mkSet GSet hr rfl T.mgSet T.biSet .nil pass0 (pa_cons (pv 0) pa_nil)))) pss_nil)
      (pss_cons (ps_if (pt_cmpR op_eq (pv 1) pe_str (nomark _)) (pss_one (ps_ret (pe_make T.mkLook GLook hr rfl T.mgLook T.biLook .nil pass0 (pa_cons (pv 0) pa_nil)))) pss_nil)
      (pss_cons (ps_if (pt_cmpR op_eq (pv 1) pe_str (nomark _)) (pss_one (ps_ret (pe_make T.mkSwap GSwap hr rfl T.mgSwap T.biSwap .nil pass0 (pa_cons (pv 0) pa_nil)))) pss_nil)
      (pss_cons (ps_if (pt_cmpR op_eq (pv 1) pe_str (nomark _)) (pss_one (ps_ret (pe_make T.mkClear GI (hr.mono (by decide)) rfl T.mgClear T.init.bi .nil pass0 (pa_cons (pv 0) pa_nil)))) pss_nil)
      (pss_one (ps_ret (pe_make T.mkSkip GSkip hr rfl T.mgSkip T.biSkip .nil pass0 (pa_cons (pv 0) pa_nil)))))))))))), ?_⟩
    refine ⟨_, rfl, v0, Ty, rfl, hTy, hvw, fun H1 hS => ?_⟩
    refine ⟨_, rfl, ?_⟩
    cases hst : isStep H v0 with
    | false => exact iteT ⟨by show 1 ≤ sizeLine; decide, kx hst H1 hS⟩
    | true =>
    refine iteF ?_
    obtain ⟨a, x0, ps, rfl, ha, hk⟩ := step_view hst
    have k := k' a x0 ps rfl ha hk
    have nn : ∀ {y : Str}, ¬ V.str x0 = V.str y → ¬ x0 = y := fun h e => h (by rw [e])
    refine ⟨_, rfl, a, _, 0, .str x0, rfl, rfl, SqT.of (hS _ _ ha), atI_nat (j := 0) rfl, ?_⟩
    refine ⟨_, rfl, rfl, _, rfl, iteD (fun e => ?_) (fun n1 => ?_)⟩
    · cases str_inj e
      obtain ⟨v1, v2, hps⟩ := two_of hk (bs := [4, TOPi]) (by unfold boundsM; rw [if_pos rfl])
      subst hps
      refine ⟨_, rfl, fun x dx nx ndx nex => ⟨x, dx, a, [.str "put", v1, v2], v1, v2, rfl, upd_same, ?_, rfl, rfl, rfl, ?_⟩⟩
      · rw [upd_ne (ne_of_none (hS _ _ ha) nx), upd_ne (ne_of_none (hS _ _ ha) ndx)]; exact hS _ _ ha
      · refine k x dx _ (fun b o q => ?_) (hS.free nx) (by rw [upd_same]; rfl)
        rw [upd_ne (ne_of_none (hS b o q) nx), upd_ne (ne_of_none (hS b o q) nx), upd_ne (ne_of_none (hS b o q) ndx)]; exact hS b o q
    refine ⟨_, rfl, rfl, _, rfl, iteD (fun e => ?_) (fun n2 => ?_)⟩
    · cases str_inj e
      obtain ⟨v1, v2, hps⟩ := two_of hk (bs := [4, 4]) (by unfold boundsM; rw [if_neg (by decide +kernel), if_pos rfl])
      subst hps
      refine ⟨_, rfl, fun x dx nx ndx nex => ⟨x, dx, a, [.str "add", v1, v2], v1, v2, rfl, upd_same, ?_, rfl, rfl, rfl, ?_⟩⟩
      · rw [upd_ne (ne_of_none (hS _ _ ha) nx), upd_ne (ne_of_none (hS _ _ ha) ndx)]; exact hS _ _ ha
      · refine k x dx _ (fun b o q => ?_) (hS.free nx) (by rw [upd_same]; rfl)
        rw [upd_ne (ne_of_none (hS b o q) nx), upd_ne (ne_of_none (hS b o q) nx), upd_ne (ne_of_none (hS b o q) ndx)]; exact hS b o q
    refine ⟨_, rfl, rfl, _, rfl, iteD (fun e => ?_) (fun n3 => ?_)⟩
    · cases str_inj e
      obtain ⟨v1, v2, hps⟩ := two_of hk (bs := [12, 4]) (by unfold boundsM; rw [if_neg (by decide +kernel), if_neg (by decide +kernel), if_pos rfl])
      subst hps
      refine ⟨_, rfl, fun x dx nx ndx nex => ⟨x, dx, a, [.str "set", v1, v2], v1, v2, rfl, upd_same, ?_, rfl, rfl, rfl, ?_⟩⟩
      · rw [upd_ne (ne_of_none (hS _ _ ha) nx), upd_ne (ne_of_none (hS _ _ ha) ndx)]; exact hS _ _ ha
      · refine k x dx _ (fun b o q => ?_) (hS.free nx) (by rw [upd_same]; rfl)
        rw [upd_ne (ne_of_none (hS b o q) nx), upd_ne (ne_of_none (hS b o q) nx), upd_ne (ne_of_none (hS b o q) ndx)]; exact hS b o q
    refine ⟨_, rfl, rfl, _, rfl, iteD (fun e => ?_) (fun n4 => ?_)⟩
    · cases str_inj e
      obtain ⟨v1, v2, hps⟩ := two_of hk (bs := [4, 12]) (by unfold boundsM; rw [if_neg (by decide +kernel), if_neg (by decide +kernel), if_neg (by decide +kernel), if_pos rfl])
      subst hps
      refine ⟨_, rfl, fun x dx nx ndx nex => ⟨x, dx, a, [.str "look", v1, v2], v1, v2, rfl, upd_same, ?_, rfl, rfl, rfl, ?_⟩⟩
      · rw [upd_ne (ne_of_none (hS _ _ ha) nx), upd_ne (ne_of_none (hS _ _ ha) ndx)]; exact hS _ _ ha
      · refine k x dx _ (fun b o q => ?_) (hS.free nx) (by rw [upd_same]; rfl)
        rw [upd_ne (ne_of_none (hS b o q) nx), upd_ne (ne_of_none (hS b o q) nx), upd_ne (ne_of_none (hS b o q) ndx)]; exact hS b o q
    refine ⟨_, rfl, rfl, _, rfl, iteD (fun e => ?_) (fun n5 => ?_)⟩
    · cases str_inj e
      obtain ⟨v1, v2, hps⟩ := two_of hk (bs := [4, 12]) (by unfold boundsM; rw [if_neg (by decide +kernel), if_neg (by decide +kernel), if_neg (by decide +kernel), if_neg (by decide +kernel), if_pos rfl])
      subst hps
      refine ⟨_, rfl, fun x dx nx ndx nex => ⟨x, dx, a, [.str "swap", v1, v2], v1, v2, rfl, upd_same, ?_, rfl, rfl, rfl, ?_⟩⟩
      · rw [upd_ne (ne_of_none (hS _ _ ha) nx), upd_ne (ne_of_none (hS _ _ ha) ndx)]; exact hS _ _ ha
      · refine k x dx _ (fun b o q => ?_) (hS.free nx) (by rw [upd_same]; rfl)
        rw [upd_ne (ne_of_none (hS b o q) nx), upd_ne (ne_of_none (hS b o q) nx), upd_ne (ne_of_none (hS b o q) ndx)]; exact hS b o q
    refine ⟨_, rfl, rfl, _, rfl, iteD (fun e => ?_) (fun n6 => ?_)⟩
    · cases str_inj e
      refine ⟨_, rfl, fun x dx nx ndx nex => ⟨x, t.cClear, dx, [], a, .str "clear" :: ps, rfl, upd_same, T.clClear, T.nPClear, by decide, ?_, rfl, ?_⟩⟩
      · rw [upd_ne (ne_of_none (hS _ _ ha) nx), upd_ne (ne_of_none (hS _ _ ha) ndx)]; exact hS _ _ ha
      · refine k x dx _ (fun b o q => ?_) (hS.free nx) (by rw [upd_same]; rfl)
        rw [upd_ne (ne_of_none (hS b o q) nx), upd_ne (ne_of_none (hS b o q) nx), upd_ne (ne_of_none (hS b o q) ndx)]; exact hS b o q
    have hskip : x0 = "skip" := last_word hk (nn n1) (nn n2) (nn n3) (nn n4) (nn n5) (nn n6)
    subst hskip
    obtain ⟨v1, v2, hps⟩ := two_of hk (bs := [4, 121]) (by unfold boundsM; rw [if_neg (by decide +kernel), if_neg (by decide +kernel), if_neg (by decide +kernel), if_neg (by decide +kernel), if_neg (by decide +kernel), if_neg (by decide +kernel), if_pos rfl])
    subst hps
    refine ⟨_, rfl, fun x dx nx ndx nex => ⟨x, dx, a, [.str "skip", v1, v2], v1, v2, rfl, upd_same, ?_, rfl, rfl, rfl, ?_⟩⟩
    · rw [upd_ne (ne_of_none (hS _ _ ha) nx), upd_ne (ne_of_none (hS _ _ ha) ndx)]; exact hS _ _ ha
    · refine k x dx _ (fun b o q => ?_) (hS.free nx) (by rw [upd_same]; rfl)
      rw [upd_ne (ne_of_none (hS b o q) nx), upd_ne (ne_of_none (hS b o q) nx), upd_ne (ne_of_none (hS b o q) ndx)]; exact hS b o q
end
end TL


namespace L2
open PySem PySem.Spec PyProof.Rows
/-- over any iterable of n turns -/
theorem for_of {J : It} {n : Nat} {g : TG} {tb : TS} {D : Ends} {σ : St} {H : Hp} (Pv : Nat → St → Hp → Prop) (h0 : Pv 0 σ H) (hgo : ∀ i σ H, i < n → Pv i σ H → J.go i H) (hst : ∀ σ H, Pv n σ H → J.stop n H)
    (hs : ∀ i σ H, i < n → Pv i σ H → ∀ x H', J.yld i H x H' → g x σ H' fun σ2 H2 => tb { D with nx := Pv (i + 1), ct := Pv (i + 1), bk := D.nx } σ2 H2) (hd : ∀ σ H, Pv n σ H → D.nx σ H) :
    ∃ W : Nat → Nat → St → Hp → Prop, (∃ m, W 0 m σ H) ∧ ∀ i m σ H, W i m σ H →
      (J.stop i H ∧ D.nx σ H) ∨ (J.go i H ∧ ∃ N : St → Hp → Prop, (∀ σ' H', N σ' H' → ∃ m', m' < m ∧ W (i + 1) m' σ' H') ∧ ∀ x H', J.yld i H x H' → g x σ H' fun σ2 H2 => tb { D with nx := N, ct := N, bk := D.nx } σ2 H2) := by
  refine ⟨fun i m σ H => m = n - i ∧ i ≤ n ∧ Pv i σ H, ⟨n, by simp, Nat.zero_le _, h0⟩, ?_⟩
  rintro i m σ H ⟨rfl, hi, p⟩
  by_cases hlt : i < n
  · exact .inr ⟨hgo i σ H hlt p, Pv (i + 1), fun σ' H' p' => ⟨n - (i + 1), by omega, rfl, hlt, p'⟩, hs i σ H hlt p⟩
  · have e : i = n := by omega
    subst e
    exact .inl ⟨hst σ H p, hd σ H p⟩
end L2
namespace TL
open PySem PySem.Spec PyProof.Rows PySem.SeqAt L2 L3
/-- a class of errors under TrayError (at cE) -/
structure XFacts (K : PySem.W.Frag) (c cE : Addr) : Prop where
  xc : XC K c
  self : PySem.W.kitCls K (.ref c) (.ref c) = some true
  base : PySem.W.kitCls K (.ref c) (.type "BaseException") = some true
  te : PySem.W.kitOne K (.ref c) (.ref cE) = some true
  ve : PySem.W.kitOne K (.ref c) (.type "ValueError") = some true
/-! ### the mirror -/
/-- a thing in the place of a step -/
def flatTy : V → Bool
  | .non => true
  | .bl _ => true
  | .int _ => true
  | .str x => PyData.strOk x
  | _ => false
theorem flat_ty {H : Hp} {v : V} (h : flatTy v = true) : (∃ T, tyName H v = some T) ∧ viewT H v = none := by
  cases v with
  | non => exact ⟨⟨_, rfl⟩, rfl⟩
  | bl b => exact ⟨⟨_, rfl⟩, rfl⟩
  | int i => exact ⟨⟨_, rfl⟩, rfl⟩
  | str x => exact ⟨⟨_, rfl⟩, rfl⟩
  | _ => cases h
def Told (H : Hp) (v : V) : Prop := (∃ T, tyName H v = some T) ∧ ∀ xs, viewT H v = some xs → xs.length ≤ 1000 ∧ ∀ x ∈ xs, flatTy x = true
theorem view_same {H H' : Hp} {v : V} {T : String} (s : Same H H') (h : tyName H v = some T) : viewT H' v = viewT H v := by
  cases v with
  | ref a =>
    unfold tyName at h
    unfold viewT
    cases e : H a with
    | none => simp only [e] at h; cases h
    | some o => simp only [s a o e, e]
  | _ => rfl
theorem Told.same {H H' : Hp} {v : V} (s : Same H H') (h : Told H v) : Told H' v := by
  obtain ⟨⟨T, hT⟩, hx⟩ := h
  refine ⟨⟨T, tyName_same s hT⟩, fun xs e => ?_⟩
  rw [view_same s hT] at e
  exact hx xs e
def skipFar (H : Hp) (v : V) (n : Int) : Bool := match viewT H v with
  | some [.str x, _, .int q] => decide (x = "skip") && decide (n < q)
  | _ => false
def fitsM (H : Hp) (v : V) (p n : Int) : Bool := isStep H v && (!skipFar H v n && decide (p < 120))
theorem fits_same {H H' : Hp} {v : V} {p n : Int} (s : Same H H') (h : Told H v) : fitsM H' v p n = fitsM H v p n := by
  obtain ⟨⟨T, hT⟩, _⟩ := h
  unfold fitsM isStep skipFar
  rw [view_same s hT]
/-- what isinstance(.., Skip) looks at -/
structure CK (K : PySem.W.Frag) (c cS : Addr) (b : Bool) : Prop where
  cl : PySem.W.findIn K (.ref c) "__class__" = some (some (.builtin "object.__class__"))
  mr : PySem.W.mroIn K c (.type "object") = some true
  one : PySem.W.kitOne K (.ref c) (.ref cS) = some b
structure IsSk (K : PySem.W.Frag) (t : Adr) : Prop where
  gt : PySem.W.specialIn K (.builtin "object.__class__") "__get__" = some (some (.builtin "getset_descriptor.__get__"))
  tk : PySem.W.takesIn K (.builtin "object.__class__") = some true
  put : CK K t.cPut t.cSkip false
  add : CK K t.cAdd t.cSkip false
  set : CK K t.cSet t.cSkip false
  look : CK K t.cLook t.cSkip false
  swap : CK K t.cSwap t.cSkip false
  clear : CK K t.cClear t.cSkip false
  skip : CK K t.cSkip t.cSkip true
section
variable {P : Program} {w : World} {K : PySem.W.Frag} {mg : Str → Option Value} {base : Heap} {t : Adr}
theorem ck_word (T : StepsT K mg t) (S : IsSk K t) {x : Str} {ps : List V} (h : stepOk (.str x :: ps) = true) : Cls K (clsW t x) ∧ CK K (clsW t x) t.cSkip (decide (x = "skip")) := by
  unfold clsW
  by_cases e1 : x = "put"
  · subst e1; rw [if_pos rfl]; exact ⟨T.clPut, S.put⟩
  rw [if_neg e1]
  by_cases e2 : x = "add"
  · subst e2; rw [if_pos rfl]; exact ⟨T.clAdd, S.add⟩
  rw [if_neg e2]
  by_cases e3 : x = "set"
  · subst e3; rw [if_pos rfl]; exact ⟨T.clSet, S.set⟩
  rw [if_neg e3]
  by_cases e4 : x = "look"
  · subst e4; rw [if_pos rfl]; exact ⟨T.clLook, S.look⟩
  rw [if_neg e4]
  by_cases e5 : x = "swap"
  · subst e5; rw [if_pos rfl]; exact ⟨T.clSwap, S.swap⟩
  rw [if_neg e5]
  by_cases e6 : x = "clear"
  · subst e6; rw [if_pos rfl]; exact ⟨T.clClear, S.clear⟩
  rw [if_neg e6]
  have e7 := last_word h e1 e2 e3 e4 e5 e6
  subst e7
  exact ⟨T.clSkip, S.skip⟩
/-! ### NoProgram -/
def spNP (C : Addr) : Sp := fun vs H Q _ => ∃ a fv c p, vs = [.ref a, c, p] ∧ H a = some (exv a (.ref C) none fv) ∧ ∀ d, H d = none → Q .non (upd (upd H a (exv a (.ref C) (some d) fv)) d (xdo d [("clerk", c), ("place", p)]))
theorem scNP : FnScope ["self", "clerk", "place"] ["self", "clerk", "place"] (defScope sNPI) := ⟨rfl, rfl, rfl, by decide +kernel, rfl, by decide +kernel, by decide +kernel⟩
theorem ok_NP {f C : Addr} {fd : FuncData} (F : Fun K "__init__" "NoProgram.__init__" sNPI f fd) (xf : XF K C) (n1 : NoAttr K C "clerk") (n2 : NoAttr K C "place") : FnOk P w K mg base CX0 1 f fd ["self", "clerk", "place"] (spNP C) := by
  refine F.ok scNP (fun vs H Q E h => ?_) (fun cdv A outer s H vs Q E hr h => ?_)
  · obtain ⟨a, fv, c, p, rfl, _⟩ := h
    rfl
  · obtain ⟨a, fv, c, p, rfl, ha, k⟩ := h
    refine ⟨_, pss_cons (ps_fldX0 (pv 0) (pv 1) rfl) (pss_one (ps_fldX1 (pv 0) (pv 2) rfl)), ?_⟩
    refine ⟨_, rfl, _, rfl, a, C, fv, rfl, ha, xf, n1, fun d hd => ?_⟩
    have nda : a ≠ d := ne_of_none ha hd
    refine ⟨_, rfl, _, rfl, a, C, fv, d, [("clerk", c)], rfl, by rw [upd_ne nda]; exact upd_same, upd_same, xf, n2, by show 1 < 1000; decide, ?_⟩
    rw [upd_upd]
    exact k d hd
theorem skip_int {v1 v2 : V} (h : stepOk [.str "skip", v1, v2] = true) : ∃ q, v2 = .int q := by
  have e : boundsM "skip" = some [4, 121] := by unfold boundsM; rw [if_neg (by decide +kernel), if_neg (by decide +kernel), if_neg (by decide +kernel), if_neg (by decide +kernel), if_neg (by decide +kernel), if_neg (by decide +kernel), if_pos rfl]
  have h' : (match boundsM "skip" with | none => false | some bs => decide ([v1, v2].length = bs.length) && ([v1, v2].zip bs).all fun p => wIn p.1 p.2) = true := h
  rw [e] at h'
  simp only [Bool.and_eq_true] at h'
  have h2 : (wIn v1 4 && (wIn v2 121 && true)) = true := h'.2
  rw [Bool.and_eq_true, Bool.and_eq_true] at h2
  cases v2 with
  | int q => exact ⟨q, rfl⟩
  | _ => cases h2.2.1
/-! ### fits -/
def spFits : Sp := fun vs H Q _ => ∃ v p n, vs = [v, .int p, .int n] ∧ Told H v ∧ ∀ H', Same H H' → Q (.bl (fitsM H v p n)) H'
theorem scFits : FnScope ["told", "place", "length", "step"] ["told", "place", "length"] (defScope sFits) := ⟨rfl, rfl, rfl, by decide +kernel, rfl, by decide +kernel, by decide +kernel⟩
theorem ok_Fits {f cN cE : Addr} {fd : FuncData} (F : Fun K "fits" "fits" sFits f fd) (T : StepsT K mg t) (S : IsSk K t) (xN : XFacts K cN cE) (mX : mg "NoStep" = some (.ref cN)) : FnOk P w K mg base CX0 5 f fd ["told", "place", "length"] spFits := by
  have GX : FnOk P w K mg base (CXE P w) 4 t.fO t.fdO ["told"] (spStepX t cN) := ok_stepX T xN.xc mX
  obtain ⟨uL, mL, rL⟩ := T.cn.long
  refine F.ok scFits (fun vs H Q E h => ?_) (fun cdv A outer s H vs Q E hr h => ?_)
  · obtain ⟨v, p, n, rfl, _⟩ := h
    rfl
  · obtain ⟨v, p, n, rfl, ⟨⟨Ty, hT⟩, hvw'⟩, k⟩ := h
    have hvw : ∀ xs, viewT H v = some xs → xs.length ≤ 1000 ∧ ∀ x ∈ xs, ∃ T, tyName H x = some T := fun xs e => ⟨(hvw' xs e).1, fun x hx => (flat_ty ((hvw' xs e).2 x hx)).1⟩
    refine ⟨_, pss_cons (ps_try0 rfl rfl rfl mX xN.base (fun W pn E hL hp => pss_one (ps_set (i := 3) scFits.nd rfl (Or.inl rfl) (pe_callX GX hr hL rfl T.mO T.fnO.kp T.bO .nil (pa_cons (pv 0) pa_nil)))) (fun ea pn => pss_one (ps_ret pe_bl)))
      (pss_cons (ps_if (PW.pt (pw_and (pt_val (pe_callB call_isi rfl T.bl.isi boot_isinstance (pa_cons (pv 3) (pa_cons (pe_glob (v := .ref t.cSkip) rfl T.mgSkip rfl) pa_nil)))) (pw_and1 (pt_cmpR op_gt (pe_fld (pv 3) rfl) (pv 2) (nomark _))))) (pss_one (ps_ret pe_bl)) pss_nil)
      (pss_one (ps_ret (pe_cmpR op_lt (pv 1) (pe_glob rfl mL rL) (nomark _))))), ?_⟩
    refine ⟨_, rfl, v, Ty, rfl, hT, hvw, fun a x ps e1 e2 e3 z dx H1 s1 hz hz1 => ?_, fun hst H1 s1 => ⟨xN.self, ?_⟩⟩
    · subst e1
      have hst : isStep H (.ref a) = true := by unfold isStep; rw [viewT_of e2]; exact e3
      obtain ⟨cl, ck⟩ := ck_word T S e3
      refine ⟨_, rfl, _, .ref t.cSkip, .ref (clsW t x), .ref t.cSkip, decide (x = "skip"), rfl, TyOf.ins hz1 cl ck.cl S.gt S.tk ck.mr, rfl, ck.one, _, rfl, iteD (fun hx => ?_) (fun hx => ?_)⟩
      · subst hx
        obtain ⟨v1, v2, hps⟩ := two_of e3 (bs := [4, 121]) (by unfold boundsM; rw [if_neg (by decide +kernel), if_neg (by decide +kernel), if_neg (by decide +kernel), if_neg (by decide +kernel), if_neg (by decide +kernel), if_neg (by decide +kernel), if_pos rfl])
        subst hps
        obtain ⟨q, rfl⟩ := skip_int e3
        have ef : skipFar H (.ref a) n = decide (n < q) := by unfold skipFar; rw [viewT_of e2]; rfl
        refine ⟨_, rfl, z, t.cSkip, dx, _, .int q, rfl, hz1, T.clSkip, T.n2Skip, rfl, _, rfl, _, _, rfl, rfl, _, rfl, iteD (fun hq => ?_) (fun hq => ?_)⟩
        · have ee : fitsM H (.ref a) p n = false := by unfold fitsM; rw [ef, decide_eq_true hq, hst]; rfl
          have kk := k H1 s1
          rw [ee] at kk
          exact kk
        · have ee : fitsM H (.ref a) p n = decide (p < 120) := by unfold fitsM; rw [ef, decide_eq_false hq, hst]; rfl
          have kk := k H1 s1
          rw [ee] at kk
          exact ⟨_, rfl, _, _, rfl, rfl, kk⟩
      · have ef : skipFar H (.ref a) n = false := by
          unfold skipFar
          rw [viewT_of e2]
          split
          · rename_i xx y q heq
            cases heq
            rw [decide_eq_false hx]; rfl
          · rfl
        have ee : fitsM H (.ref a) p n = decide (p < 120) := by unfold fitsM; rw [ef, hst]; rfl
        have kk := k H1 s1
        rw [ee] at kk
        exact ⟨_, rfl, _, _, rfl, rfl, kk⟩
    · have ee : fitsM H v p n = false := by unfold fitsM; rw [hst]; rfl
      have kk := k H1 s1
      rw [ee] at kk
      exact kk
end
end TL


namespace TL
open PySem PySem.Spec PyProof.Rows PySem.SeqAt L2 L3
theorem isi_K {X : Cx} (K : PySem.W.Frag) (h : X.K = K := by rfl) : CallR X (.builtin "isinstance") (rIsi K) := by subst h; exact call_isi
/-! ### the mirror of programs -/
def partV (H : Hp) (x : V) : List V := (viewT H x).getD []
def hasM (H : Hp) (v : V) : Bool := match viewT H v with
  | some xs => (decide (1 ≤ xs.length) && decide (xs.length ≤ 4)) && xs.all fun x => (viewT H x).isSome
  | none => false
def Prog2 (H : Hp) (v : V) : Prop := (∃ T, tyName H v = some T) ∧ ∀ xs, viewT H v = some xs → xs.length ≤ 1000 ∧ ∀ x ∈ xs, (∃ T, tyName H x = some T) ∧ ∀ ys, viewT H x = some ys → ys.length ≤ 1000 ∧ ∀ y ∈ ys, Told H y
def badIn (H : Hp) (n : Int) : Nat → List V → Option Nat
  | _, [] => none
  | p, v :: r => if fitsM H v p n = true then badIn H n (p + 1) r else some p
def firstBad (H : Hp) : Nat → List V → Option (Nat × Nat)
  | _, [] => none
  | c, x :: r => match badIn H (partV H x).length 0 (partV H x) with
    | some p => some (c, p)
    | none => firstBad H (c + 1) r
theorem badIn_app {H : Hp} {n : Int} : ∀ {l r : List V} {p : Nat}, badIn H n p l = none → badIn H n p (l ++ r) = badIn H n (p + l.length) r
  | [], r, p, _ => rfl
  | v :: l, r, p, h => by
    have h' : (if fitsM H v p n = true then badIn H n (p + 1) l else some p) = none := h
    show (if fitsM H v p n = true then badIn H n (p + 1) (l ++ r) else some p) = _
    by_cases e : fitsM H v p n = true
    · rw [if_pos e] at h' ⊢
      rw [badIn_app h', List.length_cons]
      congr 1
      omega
    · rw [if_neg e] at h'; cases h'
theorem firstBad_app {H : Hp} : ∀ {l r : List V} {c : Nat}, firstBad H c l = none → firstBad H c (l ++ r) = firstBad H (c + l.length) r
  | [], r, c, _ => rfl
  | x :: l, r, c, h => by
    have h' : (match badIn H (partV H x).length 0 (partV H x) with | some p => some (c, p) | none => firstBad H (c + 1) l) = none := h
    show (match badIn H (partV H x).length 0 (partV H x) with | some p => some (c, p) | none => firstBad H (c + 1) (l ++ r)) = _
    cases e : badIn H (partV H x).length 0 (partV H x) with
    | some p => rw [e] at h'; cases h'
    | none =>
      rw [e] at h'
      show firstBad H (c + 1) (l ++ r) = _
      rw [firstBad_app h', List.length_cons]
      congr 1
      omega
theorem take_cons {α : Type} {l : List α} {i : Nat} {x : α} (h : l[i]? = some x) : l = l.take i ++ x :: l.drop (i + 1) := by
  obtain ⟨hi, e⟩ := List.getElem?_eq_some_iff.mp h
  rw [← e, ← List.drop_eq_getElem_cons hi, List.take_append_drop]
theorem badIn_succ {H : Hp} {n : Int} {l : List V} {i : Nat} {x : V} (hx : l[i]? = some x) (h : badIn H n 0 (l.take i) = none) (f : fitsM H x i n = true) : badIn H n 0 (l.take (i + 1)) = none := by
  have hi : i < l.length := (List.getElem?_eq_some_iff.mp hx).1
  rw [List.take_add_one, hx, badIn_app h, List.length_take, Nat.min_eq_left (Nat.le_of_lt hi), Nat.zero_add]
  show (if fitsM H x i n = true then none else some i) = none
  rw [if_pos f]
theorem badIn_hit {H : Hp} {n : Int} {l : List V} {i : Nat} {x : V} (hx : l[i]? = some x) (h : badIn H n 0 (l.take i) = none) (f : fitsM H x i n = false) : badIn H n 0 l = some i := by
  have hi : i < l.length := (List.getElem?_eq_some_iff.mp hx).1
  rw [take_cons hx, badIn_app h, List.length_take, Nat.min_eq_left (Nat.le_of_lt hi), Nat.zero_add]
  show (if fitsM H x i n = true then _ else some i) = some i
  rw [f, if_neg Bool.false_ne_true]
theorem firstBad_succ {H : Hp} {l : List V} {i : Nat} {x : V} (hx : l[i]? = some x) (h : firstBad H 0 (l.take i) = none) (f : badIn H (partV H x).length 0 (partV H x) = none) : firstBad H 0 (l.take (i + 1)) = none := by
  rw [List.take_add_one, hx, firstBad_app h]
  show (match badIn H (partV H x).length 0 (partV H x) with | some p => some (_, p) | none => none) = none
  rw [f]
theorem firstBad_hit {H : Hp} {l : List V} {i p : Nat} {x : V} (hx : l[i]? = some x) (h : firstBad H 0 (l.take i) = none) (f : badIn H (partV H x).length 0 (partV H x) = some p) : firstBad H 0 l = some (i, p) := by
  have hi : i < l.length := (List.getElem?_eq_some_iff.mp hx).1
  rw [take_cons hx, firstBad_app h, List.length_take, Nat.min_eq_left (Nat.le_of_lt hi), Nat.zero_add]
  show (match badIn H (partV H x).length 0 (partV H x) with | some p => some (i, p) | none => _) = some (i, p)
  rw [f]
theorem nd_part : (["part"] : List Str).Nodup := by decide +kernel
section
variable {P : Program} {w : World} {K : PySem.W.Frag} {mg : Str → Option Value} {base : Heap} {t : Adr}
/-! ### has_clerks -/
def spHas : Sp := fun vs H Q _ => ∃ v, vs = [v] ∧ Prog2 H v ∧ ∀ H', Same H H' → Q (.bl (hasM H v)) H'
theorem scHas : FnScope ["program"] ["program"] (defScope sHas) := ⟨rfl, rfl, rfl, by decide +kernel, rfl, by decide +kernel, by decide +kernel⟩
theorem ok_Has {f : Addr} {fd : FuncData} (F : Fun K "has_clerks" "has_clerks" sHas f fd) (B : Bl mg) (C : ∃ u, mg "CLERKS" = some u ∧ RelV (.int 4) u) : FnOk P w K mg base CX0 1 f fd ["program"] spHas := by
  obtain ⟨uC, mC, rC⟩ := C
  refine F.ok scHas (fun vs H Q E h => ?_) (fun cdv A outer s H vs Q E hr h => ?_)
  · obtain ⟨v, rfl, _⟩ := h
    rfl
  · obtain ⟨v, rfl, ⟨⟨Ty, hT⟩, hx⟩, k⟩ := h
    refine ⟨_, pss_cons (ps_if (PW.pt (pw_or (pt_not (pt_val (pe_callB call_isi rfl B.isi boot_isinstance (pa_cons (pv 0) (pa_cons (pe_bltn (v := .ty "tuple") rfl B.tuple boot_tuple rfl) pa_nil)))))
        (pw_or1 (pt_not (pt_chain op_le op_le pe_int (pe_callB call_len_seq rfl B.len PySem.boot_len (pa_cons (pv 0) pa_nil)) (pe_glob rfl mC rC))))))
        (pss_one (ps_ret pe_bl)) pss_nil)
      (pss_one (ps_ret (pe_callB (call_all rfl) rfl B.all boot_all (pa_cons (pe_comp (N := ["part"]) (idx := []) rfl (ScC.of (by kernel_rfl)) (gkeep_name (Nat.zero_le _))
        (pi_tup (pv 0)) (fun _ _ _ _ => pg_name (i := 0) nd_part rfl (Or.inl rfl) (.inr rfl)) (fun _ _ _ _ => pts_nil)
        (fun _ _ _ _ => pe_callB (isi_K K) rfl B.isi boot_isinstance (pa_cons (pv 0) (pa_cons (pe_bltn (v := .ty "tuple") rfl B.tuple boot_tuple rfl) pa_nil)))) pa_nil)))), ?_⟩
    cases hv : viewT H v with
    | none =>
      have hi : isiB Ty "tuple" = false := by rw [noView hT, hv]; rfl
      have hst : hasM H v = false := by unfold hasM; rw [hv]
      have kk := k H (Same.refl H)
      rw [hst] at kk
      refine ⟨v, rfl, _, _, _, _, _, rfl, tyT hT, rfl, kitU hT (by decide), _, rfl, ?_⟩
      rw [hi]
      exact iteT (iteT kk)
    | some xs =>
      obtain ⟨a, e0, ha⟩ := viewT_ref hv
      subst e0
      obtain ⟨hl, hty⟩ := hx xs hv
      have hi : isiB Ty "tuple" = true := by rw [noView hT, hv]; rfl
      have kk : ∀ H', Same H H' → Q (.bl ((decide (1 ≤ xs.length) && decide (xs.length ≤ 4)) && xs.all fun x => (viewT H x).isSome)) H' := fun H' s => by
        have q := k H' s
        unfold hasM at q
        rw [hv] at q
        exact q
      refine ⟨_, rfl, _, _, _, _, _, rfl, tyT hT, rfl, kitU hT (by decide), _, rfl, ?_⟩
      rw [hi]
      refine iteF ?_
      refine ⟨_, rfl, a, xs, rfl, .inr (SqT.of ha), _, _, rfl, rfl, _, rfl, iteD (fun h1 => ?_) (fun h1 => ?_)⟩
      · have e1 : decide (1 ≤ xs.length) = true := decide_eq_true (by omega)
        rw [e1, Bool.true_and] at kk
        refine ⟨_, _, rfl, rfl, _, rfl, iteND (fun h2 => ?_) (fun h2 => ?_)⟩
        · have e2 : decide (xs.length ≤ 4) = false := decide_eq_false fun z => h2 (by omega)
          rw [e2, Bool.false_and] at kk
          exact kk H (Same.refl H)
        have e2 : decide (xs.length ≤ 4) = true := decide_eq_true (by omega)
        rw [e2, Bool.true_and] at kk
        refine ⟨_, rfl, a, rfl, ⟨xs, SqT.of ha⟩, ?_⟩
        refine compW_of (n := xs.length) (fun i ys H' => i ≤ xs.length ∧ Same H H' ∧ ys = (xs.take i).map fun x => V.bl (viewT H x).isSome) ?_ ?_ ?_ ?_ ?_ ?_ ?_
        · exact Nat.le_of_lt (small1000 (by omega))
        · exact ⟨Nat.zero_le _, Same.refl _, rfl⟩
        · rintro i ys H' ⟨_, _, e⟩
          rw [e, List.length_map, List.length_take]
          omega
        · rintro i ys H' hi ⟨_, s1, _⟩
          exact ⟨xs, xs[i], SqT.of (s1 _ _ ha), List.getElem?_eq_getElem hi⟩
        · rintro ys H' ⟨_, s1, _⟩
          exact ⟨xs, SqT.of (s1 _ _ ha), Nat.le_refl _⟩
        · rintro i ys H' hi ⟨_, s1, e⟩ x H'' ⟨eH, hx1⟩
          subst eH
          have hxi := hx1 xs (SqT.of (s1 _ _ ha))
          obtain ⟨⟨Tx, hTx⟩, _⟩ := hty x (List.mem_of_getElem? hxi)
          have hTx' := tyName_same s1 hTx
          refine ⟨_, rfl, _, _, _, _, _, rfl, tyT hTx', rfl, kitU hTx' (by decide), hi, s1, ?_⟩
          rw [List.take_add_one, hxi, List.map_append, ← e, noView hTx]
          rfl
        · rintro ys H' ⟨_, s1, e⟩
          refine ⟨?_, fun r hr0 => ?_⟩
          · rw [e, List.length_map, List.length_take]
            exact Nat.le_of_lt (small1000 (by omega))
          have ey : ys = ((xs.map fun x => (viewT H x).isSome)).map V.bl := by
            rw [e, List.take_of_length_le (Nat.le_refl _), List.map_map]
            rfl
          refine ⟨r, xs.map fun x => (viewT H x).isSome, rfl, SqL.of (by rw [upd_same, ey]), ?_⟩
          rw [List.all_map]
          exact kk _ (same_new s1 hr0)
      · have e1 : decide (1 ≤ xs.length) = false := decide_eq_false fun z => h1 (by omega)
        rw [e1, Bool.false_and, Bool.false_and] at kk
        exact ⟨_, rfl, iteT (kk H (Same.refl H))⟩
/-! ### look_over -/
def spLook (cC cP : Addr) : Sp := fun vs H Q E => ∃ v, vs = [v] ∧ Prog2 H v ∧ (hasM H v = false → ∀ H', Same H H' → E (.ref cC) none H') ∧
  (hasM H v = true → ∀ xs, viewT H v = some xs → (firstBad H 0 xs = none → ∀ H', Same H H' → Q .non H') ∧
    ∀ c p, firstBad H 0 xs = some (c, p) → ∀ d H', Same H H' → H' d = some (xdo d [("clerk", .int c), ("place", .int p)]) → E (.ref cP) (some d) H')
theorem scLook : FnScope ["program", "clerk", "part", "place", "told"] ["program"] (defScope sLookOver) := ⟨rfl, rfl, rfl, by decide +kernel, rfl, by decide +kernel, by decide +kernel⟩
theorem has_parts {H : Hp} {v : V} {xs : List V} (h : hasM H v = true) (hv : viewT H v = some xs) : ∀ x ∈ xs, viewT H x = some (partV H x) := fun x hx => by
  unfold hasM at h
  rw [hv] at h
  have h' : ((decide (1 ≤ xs.length) && decide (xs.length ≤ 4)) && xs.all fun x => (viewT H x).isSome) = true := h
  rw [Bool.and_eq_true] at h'
  have := List.all_eq_true.mp h'.2 x hx
  obtain ⟨ys, e⟩ := Option.isSome_iff_exists.mp this
  unfold partV
  rw [e]
  rfl
theorem ok_Look {f fH fF fI cC cP : Addr} {fd fdH fdF fdI : FuncData} (F : Fun K "look_over" "look_over" sLookOver f fd) (B : Bl mg) (hen : mg "enumerate" = none)
    (GH : FnOk P w K mg base CX0 1 fH fdH ["program"] spHas) (kH : PySem.W.keepIn K (.ref fH) = true) (bH : Binds K fdH ["program"] []) (mH : mg "has_clerks" = some (.ref fH))
    (GF : FnOk P w K mg base CX0 5 fF fdF ["told", "place", "length"] spFits) (kF : PySem.W.keepIn K (.ref fF) = true) (bF : Binds K fdF ["told", "place", "length"] []) (mF : mg "fits" = some (.ref fF))
    (xC : XC K cC) (mC : mg "NoClerks" = some (.ref cC)) (xP : XCI K cP fI) (GI : FnOk P w K mg base CX0 1 fI fdI ["self", "clerk", "place"] (spNP cP)) (bI : Binds K fdI ["self", "clerk", "place"] []) (mP : mg "NoProgram" = some (.ref cP)) :
    FnOk P w K mg base (CXE P w) 6 f fd ["program"] (spLook cC cP) := by
  refine F.okX scLook (fun vs H Q E h => ?_) (fun cdv A outer s H vs Q E hr hL hp h => ?_)
  · obtain ⟨v, rfl, _⟩ := h
    rfl
  · obtain ⟨v, rfl, hP, kC, kP⟩ := h
    refine ⟨_, pss_cons (ps_if (pt_not (pt_val (pe_call GH (hr.mono (by decide)) rfl mH kH bH .nil pass0 (pa_cons (pv 0) pa_nil)))) (pss_one (ps_raise rfl hL xC rfl mC (pa_cons pe_str pa_nil))) pss_nil)
      (pss_one (ps_for hp rfl (pi_enum (b := false) rfl hen (pa_cons (pv 0) pa_nil)) (pg_tup rfl (pgs_cons (pg_name (i := 1) scLook.nd rfl (Or.inl rfl)) (pgs_cons (pg_name (i := 2) scLook.nd rfl (Or.inl rfl)) pgs_nil)))
        (pss_one (ps_for hp rfl (pi_enum (b := false) rfl hen (pa_cons (pv 2) pa_nil)) (pg_tup rfl (pgs_cons (pg_name (i := 3) scLook.nd rfl (Or.inl rfl)) (pgs_cons (pg_name (i := 4) scLook.nd rfl (Or.inl rfl)) pgs_nil)))
          (pss_one (ps_if (pt_not (pt_val (pe_call GF hr rfl mF kF bF .nil pass0 (pa_cons (pv 4) (pa_cons (pv 3) (pa_cons (pe_callB call_len_seq rfl B.len PySem.boot_len (pa_cons (pv 2) pa_nil)) pa_nil))))))
            (pss_one (ps_raiseI rfl hL xP GI (hr.mono (by decide)) bI rfl mP (pa_cons (pv 1) (pa_cons (pv 3) pa_nil)))) pss_nil)))))), ?_⟩
    refine ⟨_, rfl, v, rfl, hP, fun H1 s1 => ⟨_, rfl, ?_⟩⟩
    cases hM : hasM H v with
    | false => exact iteT ⟨by show 1 ≤ sizeLine; decide, kC hM H1 s1⟩
    | true =>
    refine iteF ?_
    obtain ⟨xs, hv⟩ : ∃ xs, viewT H v = some xs := by
      unfold hasM at hM
      cases e : viewT H v with
      | none => rw [e] at hM; cases hM
      | some xs => exact ⟨xs, rfl⟩
    obtain ⟨kn, kb⟩ := kP hM xs hv
    have hpt := has_parts hM hv
    obtain ⟨_, hx⟩ := hP
    obtain ⟨hl, hty⟩ := hx xs hv
    obtain ⟨a, e0, ha⟩ := viewT_ref hv
    subst e0
    refine ⟨_, rfl, a, xs, rfl, SqT.of (s1 _ _ ha), for_of (n := xs.length) (fun i σ H' => i ≤ xs.length ∧ ∃ c q p d, σ = [some (.ref a), c, q, p, d] ∧ Same H H' ∧ firstBad H 0 (xs.take i) = none) ⟨Nat.zero_le _, none, none, none, none, rfl, s1, rfl⟩ ?_ ?_ ?_ ?_⟩
    · rintro i σ H' hi ⟨_, _, _, _, _, _, s2, _⟩
      exact ⟨xs, xs[i], SqT.of (s2 _ _ ha), List.getElem?_eq_getElem hi⟩
    · rintro σ H' ⟨_, _, _, _, _, _, s2, _⟩
      exact ⟨xs, SqT.of (s2 _ _ ha), Nat.le_refl _⟩
    · rintro i σ H2 hi ⟨_, c, q, p, d, rfl, s2, hb⟩ z H3 ⟨r, x, hr0, ez, eH, hx1⟩
      subst ez
      subst eH
      have hxi := hx1 xs (SqT.of (s2 _ _ ha))
      have hm := List.mem_of_getElem? hxi
      obtain ⟨⟨Tx, hTx⟩, hys⟩ := hty x hm
      have hpx := hpt x hm
      obtain ⟨hyl, hyt⟩ := hys _ hpx
      obtain ⟨b, eb, hb1⟩ := viewT_ref hpx
      subst eb
      have s3 : Same H (upd H2 r (.tup [.int i, .ref b])) := same_new s2 hr0
      refine ⟨r, [.int i, .ref b], rfl, SqT.of upd_same, rfl, .int i, [.ref b], rfl, .ref b, [], rfl, rfl, ?_⟩
      refine ⟨_, rfl, b, partV H (.ref b), rfl, SqT.of (s3 _ _ hb1), for_of (n := (partV H (.ref b)).length) (fun j σ H' => ∃ p d, σ = [some (.ref a), some (.int i), some (.ref b), p, d] ∧ Same H H' ∧ badIn H (partV H (.ref b)).length 0 ((partV H (.ref b)).take j) = none) ⟨p, d, rfl, s3, rfl⟩ ?_ ?_ ?_ ?_⟩
      · rintro j σ H' hj ⟨_, _, _, s4, _⟩
        exact ⟨_, (partV H (.ref b))[j], SqT.of (s4 _ _ hb1), List.getElem?_eq_getElem hj⟩
      · rintro σ H' ⟨_, _, _, s4, _⟩
        exact ⟨_, SqT.of (s4 _ _ hb1), Nat.le_refl _⟩
      · rintro j σ H4 hj ⟨p', d', rfl, s4, hbj⟩ z' H5 ⟨r', y, hr', ez', eH', hy1⟩
        subst ez'
        subst eH'
        have hyj := hy1 _ (SqT.of (s4 _ _ hb1))
        have hty' := hyt y (List.mem_of_getElem? hyj)
        have s5 : Same H (upd H4 r' (.tup [.int j, y])) := same_new s4 hr'
        refine ⟨r', [.int j, y], rfl, SqT.of upd_same, rfl, .int j, [y], rfl, y, [], rfl, rfl, ?_⟩
        refine ⟨_, rfl, _, rfl, _, rfl, b, _, rfl, .inr (SqT.of (s5 _ _ hb1)), y, j, _, rfl, hty'.same s5, fun H6 s6 => ⟨_, rfl, ?_⟩⟩
        rw [fits_same s5 hty']
        cases hf : fitsM H y j (partV H (.ref b)).length with
        | false =>
          refine iteT ⟨_, rfl, _, rfl, by show 2 ≤ sizeLine; decide, fun ea ta hea => ⟨ea, _, .int i, .int j, rfl, upd_same, fun d hd => ⟨rfl, some d, ?_, ?_⟩⟩⟩
          · rw [upd_ne (ne_of_none upd_same hd)]; exact upd_same
          · have s7 : Same H H6 := s5.trans s6
            have nde : d ≠ ea := fun z => by rw [z, upd_same] at hd; cases hd
            refine kb i j (firstBad_hit hxi hb (badIn_hit hyj hbj hf)) d _ (fun g o e => ?_) ?_
            · have n1 : g ≠ ea := ne_of_none (s7 _ _ e) hea
              have n2 : g ≠ d := ne_of_none (show upd H6 ea _ g = some o by rw [upd_ne n1]; exact s7 _ _ e) hd
              rw [del_ne n1, upd_ne n2, upd_ne n1, upd_ne n1]
              exact s7 _ _ e
            · rw [del_ne nde]; exact upd_same
        | true => exact iteF ⟨_, _, rfl, s5.trans s6, badIn_succ hyj hbj hf⟩
      · rintro σ H4 ⟨p', d', rfl, s4, hbj⟩
        rw [List.take_of_length_le (Nat.le_refl _)] at hbj
        exact ⟨hi, _, _, _, _, rfl, s4, firstBad_succ hxi hb hbj⟩
    · rintro σ H' ⟨_, c, q, p, d, rfl, s2, hb⟩
      rw [List.take_of_length_le (Nat.le_refl _)] at hb
      exact kn hb H' s2
end
end TL


namespace L2
open PySem PySem.Spec PyProof.Rows
section
variable {X : Cx} {e : Expr} {es : List Expr}
theorem PE.imp {t t' : TE} (h : PE X e t) (hi : ∀ σ H Q, t' σ H Q → t σ H Q) : PE X e t' := fun pins s σ H Q I q => h pins s σ H Q I (hi σ H Q q)
theorem PA.imp {t t' : TA} (h : PA X es t) (hi : ∀ σ H Q, t' σ H Q → t σ H Q) : PA X es t' := fun pos pins s σ H Q I q => h pos pins s σ H Q I (hi σ H Q q)
end
end L2
namespace TL
open PySem PySem.Spec PyProof.Rows PySem.SeqAt L2 L3
def cellM (ns : List Int) (k : Int) : Int := ns.getD k.toNat 0
def mixN (c k : Int) : Int := (c % 2147483647 + 7919 * k + 1) * 48271 % 2147483647
def mixedM (c k : Int) : Int := mixN c k * (mixN c k / 1009 + 69621) % 2147483647
theorem mixN_b (c k : Int) : 0 ≤ mixN c k ∧ mixN c k < 2147483647 := ⟨Int.emod_nonneg _ (by decide), Int.emod_lt_of_pos _ (by decide)⟩
theorem mixedM_b (c k : Int) : 0 ≤ mixedM c k ∧ mixedM c k < 2147483647 := ⟨Int.emod_nonneg _ (by decide), Int.emod_lt_of_pos _ (by decide)⟩
section
variable {P : Program} {w : World} {K : PySem.W.Frag} {mg : Str → Option Value} {base : Heap}
def spCell (K : PySem.W.Frag) : Sp := fun vs H Q _ => ∃ a ns k, vs = [.ref a, .int k] ∧ SqL K H a (ns.map V.int) ∧ 0 ≤ k ∧ Q (.int (cellM ns k)) H
theorem scCell : FnScope ["_law_script", "_law_k"] ["_law_script", "_law_k"] (defScope sCellAt) := ⟨rfl, rfl, rfl, by decide +kernel, rfl, by decide +kernel, by decide +kernel⟩
theorem ok_cell {f : Addr} {fd : FuncData} (F : Fun K "_law_cell_at" "_law_cell_at" sCellAt f fd) (hln : mg "len" = none) : FnOk P w K mg base CX0 1 f fd ["_law_script", "_law_k"] (spCell K) := by
  refine F.ok scCell (fun vs H Q E h => ?_) (fun cdv A outer s H vs Q E hr h => ?_)
  · obtain ⟨a, ns, k, rfl, _⟩ := h
    rfl
  · obtain ⟨a, ns, j, rfl, ha, hj, k⟩ := h
    refine ⟨_, pss_cons (ps_if (pt_cmpR op_lt (pv 1) (pe_callB call_len_seq rfl hln PySem.boot_len (pa_cons (pv 0) pa_nil)) (nomark _)) (pss_one (ps_ret (pe_ix ix_list (pv 0) (pv 1) (fun _ _ => rfl)))) pss_nil) (pss_one (ps_ret pe_int)), ?_⟩
    refine ⟨_, rfl, _, rfl, a, _, rfl, .inl ha, _, _, rfl, rfl, _, rfl, iteD (fun h1 => ?_) (fun h1 => ?_)⟩
    · rw [List.length_map] at h1
      have hlt : j.toNat < ns.length := by omega
      refine ⟨_, rfl, _, rfl, a, _, j, .int (cellM ns j), rfl, rfl, ha, ?_, k⟩
      have e : j = (j.toNat : Int) := by omega
      rw [e]
      refine atI_nat ?_
      rw [List.getElem?_map, List.getElem?_eq_getElem hlt]
      unfold cellM
      rw [Int.toNat_natCast, List.getD_eq_getElem?_getD, List.getElem?_eq_getElem hlt]
      rfl
    · rw [List.length_map] at h1
      have e : cellM ns j = 0 := by
        unfold cellM
        rw [List.getD_eq_getElem?_getD, List.getElem?_eq_none (by omega)]
        rfl
      rw [e] at k
      exact k
def spMix : Sp := fun vs H Q _ => ∃ c j, vs = [.int c, .int j] ∧ Q (.int (mixedM c j)) H
theorem scMix : FnScope ["_law_cell", "_law_k", "_law_number"] ["_law_cell", "_law_k"] (defScope sMixed) := ⟨rfl, rfl, rfl, by decide +kernel, rfl, by decide +kernel, by decide +kernel⟩
theorem ok_mix {f : Addr} {fd : FuncData} (F : Fun K "_law_mixed" "_law_mixed" sMixed f fd) : FnOk P w K mg base CX0 1 f fd ["_law_cell", "_law_k"] spMix := by
  refine F.ok scMix (fun vs H Q E h => ?_) (fun cdv A outer s H vs Q E hr h => ?_)
  · obtain ⟨a, j, rfl, _⟩ := h
    rfl
  · obtain ⟨c, j, rfl, k⟩ := h
    refine ⟨_, pss_cons (ps_set (i := 2) scMix.nd rfl (Or.inl rfl) (pe_op op_mod (pe_op op_mul (pe_op op_add (pe_op op_add (pe_op op_mod (pv 0) pe_int) (pe_op op_mul pe_int (pv 1))) pe_int) pe_int) pe_int))
      (pss_one (ps_ret (pe_op op_mod (pe_op op_mul (pv 2) (pe_op op_add (pe_op op_fdiv (pv 2) pe_int) pe_int)) pe_int))), ?_⟩
    have hb := mixN_b c j
    refine ⟨_, rfl, _, _, rfl, rfl, (by show (0 : Int) < 2147483647; decide), _, rfl, _, _, rfl, rfl, .inl ⟨by decide, by decide⟩, _, _, rfl, rfl, _, _, rfl, rfl, _, _, rfl, rfl, .inr ⟨by decide, by decide⟩, _, _, rfl, rfl, (by show (0 : Int) < 2147483647; decide), ?_⟩
    refine ⟨_, rfl, _, rfl, _, _, rfl, rfl, ⟨by decide, by decide⟩, _, _, rfl, rfl, _, _, rfl, rfl, .inl ⟨?_, ?_⟩, _, _, rfl, rfl, (by show (0 : Int) < 2147483647; decide), k⟩
    · show -(2 ^ 64) < mixN c j
      omega
    · show mixN c j < 2 ^ 64
      omega
end
/-! ### things in the place of steps, whichever they are -/
theorem told_flat {H : Hp} {v : V} (h : flatTy v = true) : Told H v := ⟨(flat_ty h).1, fun xs e => by rw [(flat_ty h).2] at e; cases e⟩
theorem told_tup {H : Hp} {p : Addr} {xs : List V} (e : H p = some (.tup xs)) (hl : xs.length ≤ 1000) (hx : ∀ x ∈ xs, flatTy x = true) : Told H (.ref p) :=
  ⟨⟨_, tyName_tup e⟩, fun ys q => by rw [viewT_of e] at q; cases q; exact ⟨hl, hx⟩⟩
theorem told_lst {H : Hp} {p : Addr} {xs : List V} (e : H p = some (.lst xs)) : Told H (.ref p) :=
  ⟨⟨"list", by unfold tyName; simp only [e]⟩, fun ys q => by unfold viewT at q; simp only [e] at q; cases q⟩
def notStar : Expr → Bool
  | .Starred _ _ => false
  | _ => true
theorem se_any {e : Expr} {es : List Expr} {env : Env} (h : notStar e = true) : starEach (e :: es) env = (false, eval e env) :: starEach es env := by
  rw [starEach]
  intro e' p z
  subst z
  cases h
def tF (pre : L2.St → Prop) : TE := fun σ H Q => pre σ ∧ ∀ v, flatTy v = true → Q v H
def tFA (pre : L2.St → Prop) (n : Nat) : TA := fun σ H Q => pre σ ∧ ∀ vs : List V, vs.length = n → (∀ v ∈ vs, flatTy v = true) → Q vs H
def tTd (pre : L2.St → Prop) : TE := fun σ H Q => pre σ ∧ ∀ v H', Same H H' → Told H' v → Q v H'
def tTdA (pre : L2.St → Prop) (n : Nat) : TA := fun σ H Q => pre σ ∧ ∀ (vs : List V) H', vs.length = n → Same H H' → (∀ v ∈ vs, Told H' v) → Q vs H'
def tTdL (pre : L2.St → Prop) (n : Nat) : TE := fun σ H Q => pre σ ∧ ∀ l (vs : List V) H', vs.length = n → Same H H' → H l = none → H' l = some (.lst vs) → (∀ v ∈ vs, Told H' v) → Q (.ref l) H'
section
variable {X : Cx} {pre : L2.St → Prop} {e : Expr} {es : List Expr} {n m : Nat} {p : Pos}
theorem f_int {i : Int} : PE X (.Constant (.int i) m p) (tF pre) := pe_int.imp fun _ _ _ h => h.2 _ rfl
theorem f_str {x : Str} (hx : PyData.strOk x = true := by decide +kernel) : PE X (.Constant (.str x) m p) (tF pre) := pe_str.imp fun _ _ _ h => h.2 _ hx
theorem f_non : PE X (.Constant .none m p) (tF pre) := pe_non.imp fun _ _ _ h => h.2 _ rfl
theorem f_bl {b : Bool} : PE X (.Constant (.bool b) m p) (tF pre) := pe_bl.imp fun _ _ _ h => h.2 _ rfl
theorem f_var {i : Nat} (h : PE X e (tVar i)) (hi : ∀ σ, pre σ → ∃ k : Int, σ[i]? = some (some (.int k))) : PE X e (tF pre) := h.imp fun σ H Q q => by
  obtain ⟨k, hk⟩ := hi σ q.1
  exact ⟨_, hk, q.2 _ rfl⟩
theorem fa_nil : PA X [] (tFA pre 0) := pa_nil.imp fun _ _ _ h => h.2 [] rfl (fun _ z => by cases z)
theorem fa_cons (he : PE X e (tF pre)) (hn : notStar e = true) (hr : PA X es (tFA pre n)) : PA X (e :: es) (tFA pre (n + 1)) := (pa_cons he hr (se_any hn)).imp fun σ H Q h =>
  ⟨h.1, fun v hv => ⟨h.1, fun vs hl hvs => h.2 (v :: vs) (by rw [List.length_cons, hl]) fun x hx => by rcases List.mem_cons.mp hx with e | e; (rw [e]; exact hv); exact hvs x e⟩⟩
theorem td_flat (h : PE X e (tF pre)) : PE X e (tTd pre) := h.imp fun σ H Q q => ⟨q.1, fun v hv => q.2 v H (Same.refl H) (told_flat hv)⟩
theorem td_tup {k : Nat} (h : PA X es (tFA pre n)) (hn : n ≤ 1000 := by decide) : PE X (.Tuple es k p) (tTd pre) := (pe_tup h).imp fun σ H Q q =>
  ⟨q.1, fun vs hl hvs => ⟨Nat.le_of_lt (small1000 (by omega)), fun r hr => q.2 _ _ (same_new (Same.refl H) hr) (told_tup upd_same (by omega) hvs)⟩⟩
theorem td_lst (h : PA X es (tFA pre n)) (hn : n ≤ 1000 := by decide) : PE X (.List es p) (tTd pre) := (pe_lst h).imp fun σ H Q q =>
  ⟨q.1, fun vs hl hvs => ⟨Nat.le_of_lt (small1000 (by omega)), fun r hr => q.2 _ _ (same_new (Same.refl H) hr) (told_lst upd_same)⟩⟩
theorem tda_nil : PA X [] (tTdA pre 0) := pa_nil.imp fun _ H _ h => h.2 [] H rfl (Same.refl H) (fun _ z => by cases z)
theorem tda_cons (he : PE X e (tTd pre)) (hn : notStar e = true) (hr : PA X es (tTdA pre n)) : PA X (e :: es) (tTdA pre (n + 1)) := (pa_cons he hr (se_any hn)).imp fun σ H Q h =>
  ⟨h.1, fun v H1 s1 hv => ⟨h.1, fun vs H2 hl s2 hvs => h.2 (v :: vs) H2 (by rw [List.length_cons, hl]) (s1.trans s2) fun x hx => by rcases List.mem_cons.mp hx with e | e; (rw [e]; exact hv.same s2); exact hvs x e⟩⟩
theorem tdl (h : PA X es (tTdA pre n)) (hn : n ≤ 1000 := by decide) : PE X (.List es p) (tTdL pre n) := (pe_lst h).imp fun σ H Q q =>
  ⟨q.1, fun vs H1 hl s1 hvs => ⟨Nat.le_of_lt (small1000 (by omega)), fun r hr => q.2 r vs _ hl (same_new s1 hr) (s1.free hr) upd_same fun v hv => (hvs v hv).same (same_new (Same.refl _) hr)⟩⟩
end
def exprIn : Stmt → Expr
  | .Assign _ (.List xs p) _ => .List xs p
  | .Assign _ (.BinOp _ _ r _) _ => r
  | _ => .Constant .none 0 ⟨0, 0, 0, 0⟩
theorem ten60 : (10 : Int) ^ (60 : Int).toNat = TOPi := by decide +kernel
end TL


namespace TL
open PySem PySem.Spec PyProof.Rows PySem.SeqAt L2 L3
section
variable {X : Cx} {pre : L2.St → Prop} {e : Expr} {p q r r2 : Pos} {m n : Nat}
/-- x % 10 ** 60 -/
theorem f_mod {i : Nat} (h : PE X e (tVar i)) (hi : ∀ σ, pre σ → ∃ k : Int, σ[i]? = some (some (.int k))) : PE X (.BinOp e .Mod (.BinOp (.Constant (.int 10) m p) .Pow (.Constant (.int 60) n q) r) r2) (tF pre) :=
  (pe_op op_mod h (pe_op op_pow pe_int pe_int)).imp fun σ H Q q => by
    obtain ⟨k, hk⟩ := hi σ q.1
    refine ⟨_, hk, _, _, rfl, rfl, ⟨by decide, by decide, by decide⟩, _, _, rfl, rfl, ?_, q.2 _ rfl⟩
    show (0 : Int) < 10 ^ (60 : Int).toNat
    decide +kernel
end
def preS : L2.St → Prop := fun σ => ∃ a b c d e x, σ = [some (.int a), some (.int b), some (.int c), some (.int d), some (.int e), x]
def preN : L2.St → Prop := fun σ => ∃ a b c x, σ = [some (.int a), some (.int b), some (.int c), x]
theorem preS1 : ∀ σ, preS σ → ∃ k : Int, σ[1]? = some (some (.int k)) := by rintro σ ⟨a, b, c, d, e, x, rfl⟩; exact ⟨_, rfl⟩
theorem preS3 : ∀ σ, preS σ → ∃ k : Int, σ[3]? = some (some (.int k)) := by rintro σ ⟨a, b, c, d, e, x, rfl⟩; exact ⟨_, rfl⟩
theorem preS4 : ∀ σ, preS σ → ∃ k : Int, σ[4]? = some (some (.int k)) := by rintro σ ⟨a, b, c, d, e, x, rfl⟩; exact ⟨_, rfl⟩
section
variable {P : Program} {w : World} {K : PySem.W.Frag} {mg : Str → Option Value} {base : Heap}
def spTd : Sp := fun vs H Q _ => ∃ d c, vs = [.int d, .int c] ∧ ∀ v H', Same H H' → Told H' v → Q v H'
theorem scLS : FnScope ["_law_draw", "_law_cell", "_law_kind", "_law_box", "_law_name", "_law_some"] ["_law_draw", "_law_cell"] (defScope sLStep) := ⟨rfl, rfl, rfl, by decide +kernel, rfl, by decide +kernel, by decide +kernel⟩
theorem at_mem {xs : List V} {d : Int} {n : Nat} (h : xs.length = n) (hn : 0 < n) : ∃ v, atI xs (d % (n : Int)) = some v ∧ v ∈ xs := by
  have b1 : 0 ≤ d % (n : Int) := Int.emod_nonneg _ (by omega)
  have b2 : d % (n : Int) < n := Int.emod_lt_of_pos _ (by omega)
  have e : d % (n : Int) = ((d % (n : Int)).toNat : Int) := by omega
  have hlt : (d % (n : Int)).toNat < xs.length := by omega
  refine ⟨xs[(d % (n : Int)).toNat], ?_, List.getElem_mem hlt⟩
  have q := atI_nat (List.getElem?_eq_getElem hlt)
  rw [← e] at q
  exact q
theorem ok_LS {f : Addr} {fd : FuncData} (F : Fun K "_law_step" "_law_step" sLStep f fd) : FnOk P w K mg base CX0 1 f fd ["_law_draw", "_law_cell"] spTd := by
  refine F.ok scLS (fun vs H Q E h => ?_) (fun cdv A outer s H vs Q E hr h => ?_)
  · obtain ⟨d, c, rfl, _⟩ := h
    rfl
  · obtain ⟨d, c, rfl, k⟩ := h
    refine ⟨_, pss_cons (ps_set (i := 2) scLS.nd rfl (Or.inl rfl) (pe_op op_mod (pv 0) pe_int))
      (pss_cons (ps_set (i := 3) scLS.nd rfl (Or.inl rfl) (pe_op op_mod (pe_op op_fdiv (pv 0) pe_int) pe_int))
      (pss_cons (ps_set (i := 4) scLS.nd rfl (Or.inl rfl) (pe_op op_mod (pe_op op_fdiv (pv 0) pe_int) pe_int))
      (pss_cons (ps_set (i := 5) scLS.nd rfl (Or.inl rfl) (tdl (pre := preS) (tda_cons (td_tup (fa_cons f_str rfl (fa_cons (f_var (pv 3) preS3) rfl (fa_cons (f_mod (pv 1) preS1) rfl fa_nil)))) rfl
        (tda_cons (td_tup (fa_cons f_str rfl (fa_cons (f_var (pv 3) preS3) rfl (fa_cons (e := .BinOp (.BinOp _ _ _ _) _ _ _) ((pe_op op_mod (pe_op op_fdiv (pv 0) pe_int) pe_int).imp fun σ H Q q => by
            obtain ⟨⟨a, b, c, d, e, x, rfl⟩, q⟩ := q
            exact ⟨_, rfl, _, _, rfl, rfl, ⟨by decide, by decide⟩, _, _, rfl, rfl, (by show (0 : Int) < 4; decide), q _ rfl⟩) rfl fa_nil)))) rfl
        (tda_cons (td_tup (fa_cons f_str rfl (fa_cons (f_var (pv 4) preS4) rfl (fa_cons (f_var (pv 3) preS3) rfl fa_nil)))) rfl tda_nil)))))
      (pss_cons (ps_set (i := 5) scLS.nd rfl (Or.inl rfl) (pe_op op_cat (pv 5) (tdl (pre := preS) (tda_cons (td_tup (fa_cons f_str rfl (fa_cons (f_var (pv 3) preS3) rfl (fa_cons (f_var (pv 4) preS4) rfl fa_nil)))) rfl
        (tda_cons (td_tup (fa_cons f_str rfl (fa_cons (f_var (pv 3) preS3) rfl (fa_cons (f_var (pv 4) preS4) rfl fa_nil)))) rfl (tda_cons (td_tup (fa_cons f_str rfl fa_nil)) rfl (tda_cons (td_tup (fa_cons f_str rfl (fa_cons (f_var (pv 3) preS3) rfl (fa_cons f_int rfl fa_nil)))) rfl tda_nil)))))))
      (pss_one (ps_ret (pe_ix ix_list (pv 5) (pv 2) (fun _ _ => rfl)))))))), ?_⟩
    refine ⟨_, rfl, _, _, rfl, rfl, (by show (0 : Int) < 7; decide), ?_⟩
    refine ⟨_, rfl, _, _, rfl, rfl, ⟨by decide, by decide⟩, _, _, rfl, rfl, (by show (0 : Int) < 4; decide), ?_⟩
    refine ⟨_, rfl, _, _, rfl, rfl, ⟨by decide, by decide⟩, _, _, rfl, rfl, (by show (0 : Int) < 12; decide), ?_⟩
    refine ⟨⟨_, _, _, _, _, _, rfl⟩, fun l vs H1 hn s1 hl0 hl ht => ?_⟩
    refine ⟨_, rfl, ⟨_, _, _, _, _, _, rfl⟩, fun l2 vs2 H2 hn2 s2 hl02 hl2 ht2 => ?_⟩
    refine ⟨l, l2, vs, vs2, rfl, rfl, s2 _ _ hl, hl2, by rw [hn, hn2]; decide, fun l3 hl3 => ?_⟩
    have s3 := same_new (o := .lst (vs ++ vs2)) (Same.refl H2) hl3
    obtain ⟨v, hv, hm⟩ := at_mem (xs := vs ++ vs2) (d := d) (n := 7) (by rw [List.length_append, hn, hn2]) (by decide)
    refine ⟨_, rfl, _, rfl, l3, _, _, v, rfl, rfl, SqL.of upd_same, hv, k v _ ((s1.trans s2).trans s3) ?_⟩
    rcases List.mem_append.mp hm with h1 | h1
    · exact (ht v h1).same (s2.trans s3)
    · exact (ht2 v h1).same s3
end
end TL


namespace TL
open PySem PySem.Spec PyProof.Rows PySem.SeqAt L2 L3
section
variable {X : Cx} {pre : L2.St → Prop} {e : Expr} {p q r r2 : Pos} {m n : Nat}
theorem f_neg : PE X (.UnaryOp .USub (.Constant (.int 1) m p) q) (tF pre) := (pe_un un_neg pe_int).imp fun σ H Q q => ⟨_, rfl, q.2 _ rfl⟩
theorem f_far1 {i : Nat} (h : PE X e (tVar i)) (hi : ∀ σ, pre σ → ∃ k : Int, σ[i]? = some (some (.int k))) : PE X (.BinOp (.BinOp (.Constant (.int 10) m p) .Pow (.Constant (.int 60) n q) r) .Add e r2) (tF pre) :=
  (pe_op op_add (pe_op op_pow pe_int pe_int) h).imp fun σ H Q q => by
    obtain ⟨k, hk⟩ := hi σ q.1
    exact ⟨_, _, rfl, rfl, ⟨by decide, by decide, by decide⟩, _, hk, _, _, rfl, rfl, q.2 _ rfl⟩
theorem f_far2 {i : Nat} (h : PE X e (tVar i)) (hi : ∀ σ, pre σ → ∃ k : Int, σ[i]? = some (some (.int k))) : PE X (.BinOp (.UnaryOp .USub (.Constant (.int 1) m p) q) .Sub e r) (tF pre) :=
  (pe_op op_sub (pe_un un_neg pe_int) h).imp fun σ H Q q => by
    obtain ⟨k, hk⟩ := hi σ q.1
    exact ⟨_, rfl, _, hk, _, _, rfl, rfl, q.2 _ rfl⟩
end
theorem preN2 : ∀ σ, preN σ → ∃ k : Int, σ[2]? = some (some (.int k)) := by rintro σ ⟨a, b, c, x, rfl⟩; exact ⟨_, rfl⟩
abbrev lnS (i : Nat) : Stmt := (defBody sLNone).getD i (.Pass ⟨0, 0, 0, 0⟩)
@[irreducible] def eN1 : Expr := exprIn (lnS 1)
@[irreducible] def eN2 : Expr := exprIn (lnS 2)
@[irreducible] def eN3 : Expr := exprIn (lnS 3)
@[irreducible] def eN4 : Expr := exprIn (lnS 4)
theorem bodyN : ∃ p1 p2 a1 a2 a3 a4 b1 b2 b3 b4 c1 c2 c3 c4, defBody sLNone = [lnS 0, .Assign [.Name "_law_some" p1] eN1 p2, .Assign [.Name "_law_some" a1] (.BinOp (.Name "_law_some" a2) .Add eN2 a3) a4,
    .Assign [.Name "_law_some" b1] (.BinOp (.Name "_law_some" b2) .Add eN3 b3) b4, .Assign [.Name "_law_some" c1] (.BinOp (.Name "_law_some" c2) .Add eN4 c3) c4, lnS 5] := by
  unfold eN1 eN2 eN3 eN4
  exact ⟨_, _, _, _, _, _, _, _, _, _, _, _, _, _, rfl⟩
theorem sw_N1 {x : Str} {p : Pos} {n : Nat} {env : Env} : swapsWith eN1 (some (.Name x p)) n env = pure false := by unfold eN1; rfl
section
variable {X : Cx}
theorem pe_N1 (v2 : ∀ p, PE X (.Name "_law_far" p) (tVar 2)) : PE X eN1 (tTdL preN 5) := by
  unfold eN1
  refine @tdl X preN _ 5 _ (@tda_cons X preN _ _ 4 ?h1 rfl (@tda_cons X preN _ _ 3 ?h2 rfl (@tda_cons X preN _ _ 2 ?h3 rfl (@tda_cons X preN _ _ 1 ?h4 rfl (@tda_cons X preN _ _ 0 ?h5 rfl tda_nil))))) (by decide)
  case h1 => exact td_tup (fa_cons f_str rfl (fa_cons f_int rfl (fa_cons f_int rfl fa_nil)))
  case h2 => exact td_tup (fa_cons f_str rfl (fa_cons f_int rfl (fa_cons f_int rfl fa_nil)))
  case h3 => exact td_tup (fa_cons f_str rfl (fa_cons f_int rfl (fa_cons (f_far1 (v2 _) preN2) rfl fa_nil)))
  case h4 => exact td_tup (fa_cons f_str rfl (fa_cons f_int rfl (fa_cons (f_far2 (v2 _) preN2) rfl fa_nil)))
  case h5 => exact td_tup (fa_cons f_str rfl (fa_cons f_bl rfl (fa_cons f_int rfl fa_nil)))
theorem pe_N2 (v2 : ∀ p, PE X (.Name "_law_far" p) (tVar 2)) : PE X eN2 (tTdL preN 6) := by
  unfold eN2
  refine @tdl X preN _ 6 _ (@tda_cons X preN _ _ 5 ?h1 rfl (@tda_cons X preN _ _ 4 ?h2 rfl (@tda_cons X preN _ _ 3 ?h3 rfl (@tda_cons X preN _ _ 2 ?h4 rfl (@tda_cons X preN _ _ 1 ?h5 rfl (@tda_cons X preN _ _ 0 ?h6 rfl tda_nil)))))) (by decide)
  case h1 => exact td_tup (fa_cons f_str rfl (fa_cons f_int rfl (fa_cons f_int rfl fa_nil)))
  case h2 => exact td_tup (fa_cons f_str rfl (fa_cons f_int rfl fa_nil))
  case h3 => exact td_tup (fa_cons f_str rfl (fa_cons f_int rfl (fa_cons f_int rfl fa_nil)))
  case h4 => exact td_tup (fa_cons f_str rfl (fa_cons f_int rfl (fa_cons f_int rfl fa_nil)))
  case h5 => exact td_tup (fa_cons f_str rfl (fa_cons f_neg rfl (fa_cons f_int rfl fa_nil)))
  case h6 => exact td_tup (fa_cons f_str rfl (fa_cons f_int rfl (fa_cons f_int rfl fa_nil)))
theorem pe_N3 (v2 : ∀ p, PE X (.Name "_law_far" p) (tVar 2)) : PE X eN3 (tTdL preN 8) := by
  unfold eN3
  refine @tdl X preN _ 8 _ (@tda_cons X preN _ _ 7 ?h1 rfl (@tda_cons X preN _ _ 6 ?h2 rfl (@tda_cons X preN _ _ 5 ?h3 rfl (@tda_cons X preN _ _ 4 ?h4 rfl (@tda_cons X preN _ _ 3 ?h5 rfl (@tda_cons X preN _ _ 2 ?h6 rfl (@tda_cons X preN _ _ 1 ?h7 rfl (@tda_cons X preN _ _ 0 ?h8 rfl tda_nil)))))))) (by decide)
  case h1 => exact td_tup (fa_cons f_str rfl (fa_cons f_int rfl (fa_cons f_int rfl fa_nil)))
  case h2 => exact td_tup (fa_cons f_str rfl (fa_cons f_int rfl (fa_cons f_int rfl fa_nil)))
  case h3 => exact td_tup (fa_cons f_str rfl (fa_cons f_int rfl (fa_cons f_non rfl fa_nil)))
  case h4 => exact td_tup (fa_cons f_str rfl (fa_cons f_int rfl fa_nil))
  case h5 => exact td_tup fa_nil
  case h6 => exact td_lst (fa_cons f_str rfl fa_nil)
  case h7 => exact td_flat f_non
  case h8 => exact td_flat f_str
theorem pe_N4 (v2 : ∀ p, PE X (.Name "_law_far" p) (tVar 2)) : PE X eN4 (tTdL preN 6) := by
  unfold eN4
  refine @tdl X preN _ 6 _ (@tda_cons X preN _ _ 5 ?h1 rfl (@tda_cons X preN _ _ 4 ?h2 rfl (@tda_cons X preN _ _ 3 ?h3 rfl (@tda_cons X preN _ _ 2 ?h4 rfl (@tda_cons X preN _ _ 1 ?h5 rfl (@tda_cons X preN _ _ 0 ?h6 rfl tda_nil)))))) (by decide)
  case h1 => exact td_tup (fa_cons f_str rfl (fa_cons f_int rfl (fa_cons f_int rfl fa_nil)))
  case h2 => exact td_tup (fa_cons f_str rfl (fa_cons f_int rfl (fa_cons f_int rfl fa_nil)))
  case h3 => exact td_tup (fa_cons f_str rfl (fa_cons f_int rfl (fa_cons f_neg rfl fa_nil)))
  case h4 => exact td_tup (fa_cons f_str rfl (fa_cons f_int rfl fa_nil))
  case h5 => exact td_tup (fa_cons f_str rfl (fa_cons f_int rfl (fa_cons f_int rfl (fa_cons f_int rfl fa_nil))))
  case h6 => exact td_tup (fa_cons f_int rfl (fa_cons f_int rfl (fa_cons f_int rfl fa_nil)))
end
section
variable {P : Program} {w : World} {K : PySem.W.Frag} {mg : Str → Option Value} {base : Heap}
theorem scLN : FnScope ["_law_draw", "_law_cell", "_law_far", "_law_some"] ["_law_draw", "_law_cell"] (defScope sLNone) := ⟨rfl, rfl, rfl, by decide +kernel, rfl, by decide +kernel, by decide +kernel⟩
theorem ok_LN {f : Addr} {fd : FuncData} (F : Fun K "_law_none" "_law_none" sLNone f fd) (hln : mg "len" = none) : FnOk P w K mg base CX0 1 f fd ["_law_draw", "_law_cell"] spTd := by
  refine F.ok scLN (fun vs H Q E h => ?_) (fun cdv A outer s H vs Q E hr h => ?_)
  · obtain ⟨d, c, rfl, _⟩ := h
    rfl
  · obtain ⟨d, c, rfl, k⟩ := h
    obtain ⟨p1, p2, a1, a2, a3, a4, b1, b2, b3, b4, c1, c2, c3, c4, eb⟩ := bodyN
    rw [eb]
    refine ⟨_, pss_cons (ps_set (i := 2) scLN.nd rfl (Or.inl rfl) (pe_op op_mod (pv 1) (pe_op op_pow pe_int pe_int)))
      (pss_cons (ps_set (i := 3) scLN.nd rfl (Or.inl rfl) (pe_N1 (fun _ => pv 2)) sw_N1)
      (pss_cons (ps_set (i := 3) scLN.nd rfl (Or.inl rfl) (pe_op op_cat (pv 3) (pe_N2 (fun _ => pv 2))))
      (pss_cons (ps_set (i := 3) scLN.nd rfl (Or.inl rfl) (pe_op op_cat (pv 3) (pe_N3 (fun _ => pv 2))))
      (pss_cons (ps_set (i := 3) scLN.nd rfl (Or.inl rfl) (pe_op op_cat (pv 3) (pe_N4 (fun _ => pv 2))))
      (pss_one (ps_ret (pe_ix ix_list (pv 3) (pe_op op_mod (pv 0) (pe_callB call_len_seq rfl hln PySem.boot_len (pa_cons (pv 3) pa_nil))) (fun _ _ => rfl)))))))), ?_⟩
    refine ⟨_, rfl, _, _, rfl, rfl, ⟨by decide, by decide, by decide⟩, _, _, rfl, rfl, (by show (0 : Int) < 10 ^ (60 : Int).toNat; decide +kernel), ?_⟩
    refine ⟨⟨_, _, _, _, rfl⟩, fun l1 v1 H1 n1 s1 f1 h1 t1 => ?_⟩
    refine ⟨_, rfl, ⟨_, _, _, _, rfl⟩, fun l2 v2 H2 n2 s2 f2 h2 t2 => ⟨l1, l2, v1, v2, rfl, rfl, s2 _ _ h1, h2, by rw [n1, n2]; decide, fun p2 hp2 => ?_⟩⟩
    have c2 := same_new (o := .lst (v1 ++ v2)) (Same.refl H2) hp2
    refine ⟨_, rfl, ⟨_, _, _, _, rfl⟩, fun l3 v3 H3 n3 s3 f3 h3 t3 => ⟨p2, l3, v1 ++ v2, v3, rfl, rfl, s3 _ _ upd_same, h3, by rw [List.length_append, n1, n2, n3]; decide, fun p3 hp3 => ?_⟩⟩
    have c3 := same_new (o := .lst ((v1 ++ v2) ++ v3)) (Same.refl H3) hp3
    refine ⟨_, rfl, ⟨_, _, _, _, rfl⟩, fun l4 v4 H4 n4 s4 f4 h4 t4 => ⟨p3, l4, (v1 ++ v2) ++ v3, v4, rfl, rfl, s4 _ _ upd_same, h4, by rw [List.length_append, List.length_append, n1, n2, n3, n4]; decide, fun p4 hp4 => ?_⟩⟩
    have c4 := same_new (o := .lst (((v1 ++ v2) ++ v3) ++ v4)) (Same.refl H4) hp4
    have hn : (((v1 ++ v2) ++ v3) ++ v4).length = 25 := by rw [List.length_append, List.length_append, List.length_append, n1, n2, n3, n4]
    obtain ⟨v, hv, hm⟩ := at_mem (d := d) hn (by decide)
    refine ⟨_, rfl, _, rfl, _, rfl, p4, _, rfl, .inl (SqL.of upd_same), _, _, rfl, rfl, ?_, p4, _, _, v, rfl, rfl, SqL.of upd_same, ?_, k v _ ?_ ?_⟩
    · rw [hn]; show (0 : Int) < ((25 : Nat) : Int); decide
    · rw [hn]; exact hv
    · exact ((s1.trans (s2.trans c2)).trans (s3.trans c3)).trans (s4.trans c4)
    · rcases List.mem_append.mp hm with hm | hm
      · rcases List.mem_append.mp hm with hm | hm
        · rcases List.mem_append.mp hm with hm | hm
          · exact (t1 v hm).same ((s2.trans c2).trans ((s3.trans c3).trans (s4.trans c4)))
          · exact (t2 v hm).same (c2.trans ((s3.trans c3).trans (s4.trans c4)))
        · exact (t3 v hm).same (c3.trans (s4.trans c4))
      · exact (t4 v hm).same c4
end
end TL


namespace TL
open PySem PySem.Spec PyProof.Rows PySem.SeqAt L2 L3
/-! ### equal to () -/
def datF : V → PyData
  | .bl b => .bool b
  | .int i => .int i
  | .str x => .str x
  | _ => .none
theorem dat_flat {K : PySem.W.Frag} {H : Hp} {v : V} (h : flatTy v = true) : DatV K H v (datF v) := by
  cases v with
  | non => exact .non
  | bl b => exact .bl b
  | int i => exact .int i
  | str x => exact .str x
  | _ => cases h
theorem dats_flat {K : PySem.W.Frag} {H : Hp} : ∀ {xs : List V}, (∀ x ∈ xs, flatTy x = true) → DatVs K H xs (xs.map datF)
  | [], _ => .nil
  | x :: r, h => .cons (dat_flat (h x List.mem_cons_self)) (dats_flat fun y hy => h y (List.mem_cons_of_mem _ hy))
theorem datF_lay {v : V} (h : flatTy v = true) : (datF v).canLay0 = true ∧ (datF v).depth ≤ 60 := by
  cases v with
  | str x => exact ⟨by simp only [datF, PyData.canLay0]; exact h, by simp [datF, PyData.depth]⟩
  | _ => exact ⟨by simp [datF, PyData.canLay0], by simp [datF, PyData.depth]⟩
theorem shaped_flatT {xs : List V} (hx : ∀ x ∈ xs, flatTy x = true) : shaped (.tuple (xs.map datF)) = true := by
  have d := depth_map (f := datF) (k := 60) (l := xs) fun a ha => (datF_lay (hx a ha)).2
  unfold shaped
  rw [Bool.and_eq_true]
  refine ⟨by simp only [PyData.canLay0]; exact canLay_map fun a ha => (datF_lay (hx a ha)).1, decide_eq_true ?_⟩
  simp only [PyData.depth]
  omega
theorem mixNilT (ds : List PyData) : noMix (.tuple ds) (.tuple []) = true ∧ same (.tuple ds) (.tuple []) = decide (ds = []) := by
  cases ds with
  | nil => simp [noMix, noMixAll, same, sameAll]
  | cons d r => simp [noMix, noMixAll, same, sameAll]
/-! ### the limits -/
theorem mergeK_nil (kvs : List (Key × V)) : mergeK kvs [] = kvs := rfl
theorem mergeK_cons (kvs : List (Key × V)) (p : Key × V) (r : List (Key × V)) : mergeK kvs (p :: r) = mergeK (putK kvs p.1 p.2) r := rfl
def LimOk (H : Hp) (D : List (Key × V)) : Prop := ∀ x : Str, (boundsM x = none → valV D (Sum.inr x) = none) ∧ ∀ bs, boundsM x = some bs → ∃ l, valV D (Sum.inr x) = some (.ref l) ∧ H l = some (.lst (bs.map V.int))
theorem lim_of {H : Hp} {l1 l2 l3 l4 l5 l6 l7 : Addr} (h1 : H l1 = some (.lst [.int 4, .int TOPi])) (h2 : H l2 = some (.lst [.int 4, .int 4])) (h3 : H l3 = some (.lst [.int 12, .int 4])) (h4 : H l4 = some (.lst [.int 4, .int 12])) (h5 : H l5 = some (.lst [.int 4, .int 12]))
    (h6 : H l6 = some (.lst [])) (h7 : H l7 = some (.lst [.int 4, .int 121])) :
    LimOk H (mergeK (mergeK [] [(Sum.inr "put", V.ref l1), (Sum.inr "add", V.ref l2), (Sum.inr "set", V.ref l3), (Sum.inr "look", V.ref l4), (Sum.inr "swap", V.ref l5)]) (mergeK [] [(Sum.inr "clear", V.ref l6), (Sum.inr "skip", V.ref l7)])) := by
  have em : mergeK ([] : List (Key × V)) [(Sum.inr "clear", V.ref l6), (Sum.inr "skip", V.ref l7)] = ([(Sum.inr "clear", V.ref l6), (Sum.inr "skip", V.ref l7)] : List (Key × V)) := by
    rw [mergeK_cons, mergeK_cons, mergeK_nil, putK_new _ valV_nil, List.nil_append, putK_new _ (by rw [valV_neg (fun z => absurd (Sum.inr.inj z) (by decide +kernel))]; exact valV_nil)]
    rfl
  rw [em]
  have ev : ∀ x : Str, valV (mergeK (mergeK ([] : List (Key × V)) [(Sum.inr "put", V.ref l1), (Sum.inr "add", V.ref l2), (Sum.inr "set", V.ref l3), (Sum.inr "look", V.ref l4), (Sum.inr "swap", V.ref l5)]) [(Sum.inr "clear", V.ref l6), (Sum.inr "skip", V.ref l7)]) (Sum.inr x) =
      if x = "skip" then some (V.ref l7) else if x = "clear" then some (V.ref l6) else if x = "swap" then some (V.ref l5) else if x = "look" then some (V.ref l4) else if x = "set" then some (V.ref l3) else if x = "add" then some (V.ref l2) else if x = "put" then some (V.ref l1) else none := fun x => by
    rw [mergeK_cons, mergeK_cons, mergeK_cons, mergeK_cons, mergeK_cons, mergeK_nil, mergeK_cons, mergeK_cons, mergeK_nil]
    rw [valV_put, valV_put, valV_put, valV_put, valV_put, valV_put, valV_put, valV_nil]
    simp only [Sum.inr.injEq]
  intro x
  rw [ev]
  unfold boundsM
  by_cases e1 : x = "put"
  · subst e1
    rw [if_pos rfl, if_neg (by decide +kernel), if_neg (by decide +kernel), if_neg (by decide +kernel), if_neg (by decide +kernel), if_neg (by decide +kernel), if_neg (by decide +kernel), if_pos rfl]
    exact ⟨fun z => (by cases z), fun bs z => (by cases z; exact ⟨_, rfl, h1⟩)⟩
  by_cases e2 : x = "add"
  · subst e2
    rw [if_neg e1, if_pos rfl, if_neg (by decide +kernel), if_neg (by decide +kernel), if_neg (by decide +kernel), if_neg (by decide +kernel), if_neg (by decide +kernel), if_pos rfl]
    exact ⟨fun z => (by cases z), fun bs z => (by cases z; exact ⟨_, rfl, h2⟩)⟩
  by_cases e3 : x = "set"
  · subst e3
    rw [if_neg e1, if_neg e2, if_pos rfl, if_neg (by decide +kernel), if_neg (by decide +kernel), if_neg (by decide +kernel), if_neg (by decide +kernel), if_pos rfl]
    exact ⟨fun z => (by cases z), fun bs z => (by cases z; exact ⟨_, rfl, h3⟩)⟩
  by_cases e4 : x = "look"
  · subst e4
    rw [if_neg e1, if_neg e2, if_neg e3, if_pos rfl, if_neg (by decide +kernel), if_neg (by decide +kernel), if_neg (by decide +kernel), if_pos rfl]
    exact ⟨fun z => (by cases z), fun bs z => (by cases z; exact ⟨_, rfl, h4⟩)⟩
  by_cases e5 : x = "swap"
  · subst e5
    rw [if_neg e1, if_neg e2, if_neg e3, if_neg e4, if_pos rfl, if_neg (by decide +kernel), if_neg (by decide +kernel), if_pos rfl]
    exact ⟨fun z => (by cases z), fun bs z => (by cases z; exact ⟨_, rfl, h5⟩)⟩
  by_cases e6 : x = "clear"
  · subst e6
    rw [if_neg e1, if_neg e2, if_neg e3, if_neg e4, if_neg e5, if_pos rfl, if_neg (by decide +kernel), if_pos rfl]
    exact ⟨fun z => (by cases z), fun bs z => (by cases z; exact ⟨_, rfl, h6⟩)⟩
  by_cases e7 : x = "skip"
  · subst e7
    rw [if_neg e1, if_neg e2, if_neg e3, if_neg e4, if_neg e5, if_neg e6, if_pos rfl, if_pos rfl]
    exact ⟨fun z => (by cases z), fun bs z => (by cases z; exact ⟨_, rfl, h7⟩)⟩
  rw [if_neg e1, if_neg e2, if_neg e3, if_neg e4, if_neg e5, if_neg e6, if_neg e7, if_neg e7, if_neg e6, if_neg e5, if_neg e4, if_neg e3, if_neg e2, if_neg e1]
  exact ⟨fun _ => rfl, fun bs z => (by cases z)⟩
section
variable {P : Program} {w : World} {K : PySem.W.Frag} {mg : Str → Option Value} {base : Heap}
def spIsNone : Sp := fun vs H Q _ => ∃ v, vs = [v] ∧ Told H v ∧ ∀ H', Same H H' → Q (.bl (!isStep H v)) H'
theorem scIsNone : FnScope ["_law_told", "_law_limits", "_law_k", "_law_number"] ["_law_told"] (defScope sIsNone) := ⟨rfl, rfl, rfl, by decide +kernel, rfl, by decide +kernel, by decide +kernel⟩
abbrev inS (i : Nat) : Stmt := (defBody sIsNone).getD i (.Pass ⟨0, 0, 0, 0⟩)
def dictIn : Stmt → Expr
  | .Assign _ e _ => e
  | .Expr (.Call _ (e :: _) _ _) _ => e
  | _ => .Constant .none 0 ⟨0, 0, 0, 0⟩
@[irreducible] def eD1 : Expr := dictIn (inS 1)
@[irreducible] def eD2 : Expr := dictIn (inS 2)
theorem bodyIn : ∃ p1 p2 q1 q2 q3 q4, defBody sIsNone = [inS 0, .Assign [.Name "_law_limits" p1] eD1 p2, .Expr (.Call (.Attribute (.Name "_law_limits" q1) "update" q2) [eD2] [] q3) q4, inS 3, inS 4, inS 5] ∧ (q2.endLine == q3.line) = true := by
  unfold eD1 eD2
  exact ⟨_, _, _, _, _, _, rfl, rfl⟩
theorem sw_D1 {x : Str} {p : Pos} {n : Nat} {env : Env} : swapsWith eD1 (some (.Name x p)) n env = pure false := by unfold eD1; rfl
end
section
variable {X : Cx}
abbrev tTwo (i j : Int) : TE := tLst (tCons (tC (.int i)) (tCons (tC (.int j)) tNil))
theorem pe_two {i j : Int} {m n : Nat} {p q r : Pos} : PE X (.List [.Constant (.int i) m p, .Constant (.int j) n q] r) (tTwo i j) := pe_lst (pa_cons pe_int (pa_cons pe_int pa_nil))
abbrev tPow : TE := tLst (tCons (tC (.int 4)) (tCons (tOp (rI CPow fun i j => .int (i ^ j.toNat)) (tC (.int 10)) (tC (.int 60))) tNil))
@[irreducible] def tD1 : TE := tDisp [(tC (.str "put"), tPow), (tC (.str "add"), tTwo 4 4), (tC (.str "set"), tTwo 12 4), (tC (.str "look"), tTwo 4 12), (tC (.str "swap"), tTwo 4 12)]
@[irreducible] def tD2 : TE := tDisp [(tC (.str "clear"), tLst tNil), (tC (.str "skip"), tTwo 4 121)]
theorem pe_D1 : PE X eD1 tD1 := by
  unfold eD1 tD1
  refine @pe_disp X _ _ _ _ (@pps_cons X _ _ _ _ _ _ _ _ pe_str ?h1 (@pps_cons X _ _ _ _ _ _ _ _ pe_str ?h2 (@pps_cons X _ _ _ _ _ _ _ _ pe_str ?h3 (@pps_cons X _ _ _ _ _ _ _ _ pe_str ?h4 (@pps_cons X _ _ _ _ _ _ _ _ pe_str ?h5 pps_nil))))) rfl rfl (by intro z; cases z) (by decide)
  case h1 => exact pe_lst (pa_cons pe_int (pa_cons (pe_op op_pow pe_int pe_int) pa_nil))
  case h2 => exact pe_two
  case h3 => exact pe_two
  case h4 => exact pe_two
  case h5 => exact pe_two
theorem pe_D2 : PE X eD2 tD2 := by
  unfold eD2 tD2
  refine @pe_disp X _ _ _ _ (@pps_cons X _ _ _ _ _ _ _ _ pe_str ?h1 (@pps_cons X _ _ _ _ _ _ _ _ pe_str ?h2 pps_nil)) rfl rfl (by intro z; cases z) (by decide)
  case h1 => exact pe_lst pa_nil
  case h2 => exact pe_two
theorem m1_D2 {x : Str} {q1 q2 q3 : Pos} (h : (q2.endLine == q3.line) = true) : M1 X (.Name x q1) "update" q2 eD2 q3 := by
  unfold eD2
  exact ⟨rfl, rfl, h, rfl⟩
end
abbrev kv1 (l1 l2 l3 l4 l5 : Addr) : List (Key × V) := [(Sum.inr "put", V.ref l1), (Sum.inr "add", V.ref l2), (Sum.inr "set", V.ref l3), (Sum.inr "look", V.ref l4), (Sum.inr "swap", V.ref l5)]
abbrev kv2 (l6 l7 : Addr) : List (Key × V) := [(Sum.inr "clear", V.ref l6), (Sum.inr "skip", V.ref l7)]
theorem tD1_of {σ : L2.St} {H : Hp} {Q : VK} (h : ∀ p l1 l2 l3 l4 l5 H', Same H H' → H p = none → H' p = some (.dK (mergeK [] (kv1 l1 l2 l3 l4 l5))) → H' l1 = some (.lst [.int 4, .int TOPi]) → H' l2 = some (.lst [.int 4, .int 4]) → H' l3 = some (.lst [.int 12, .int 4]) → H' l4 = some (.lst [.int 4, .int 12]) → H' l5 = some (.lst [.int 4, .int 12]) → Q (.ref p) H') :
    tD1 σ H Q := by
  unfold tD1
  intro p hp
  have two : 2 ≤ sizeLine := by decide
  have s0 := same_new (o := .dK []) (Same.refl H) hp
  refine ⟨_, _, rfl, rfl, ⟨by decide, by decide, by decide⟩, two, fun l1 n1 => ?_⟩
  have s1 := same_new (o := .lst [.int 4, .int (10 ^ (60 : Int).toNat)]) (Same.refl _) n1
  refine ⟨two, fun l2 n2 => ?_⟩
  have s2 := same_new (o := .lst [.int 4, .int 4]) (Same.refl _) n2
  refine ⟨two, fun l3 n3 => ?_⟩
  have s3 := same_new (o := .lst [.int 12, .int 4]) (Same.refl _) n3
  refine ⟨two, fun l4 n4 => ?_⟩
  have s4 := same_new (o := .lst [.int 4, .int 12]) (Same.refl _) n4
  refine ⟨two, fun l5 n5 => ?_⟩
  have s5 := same_new (o := .lst [.int 4, .int 12]) (Same.refl _) n5
  have t4 := s4.trans s5
  have t3 := s3.trans t4
  have t2 := s2.trans t3
  have t1 := s1.trans t2
  have e0 := t1 _ _ (upd_same (H := H) (a := p) (o := .dK []))
  have e1 := t2 _ _ (upd_same (a := l1) (o := .lst [.int 4, .int (10 ^ (60 : Int).toNat)]))
  have e2 := t3 _ _ (upd_same (a := l2) (o := .lst [.int 4, .int 4]))
  have e3 := t4 _ _ (upd_same (a := l3) (o := .lst [.int 12, .int 4]))
  have e4 := s5 _ _ (upd_same (a := l4) (o := .lst [.int 4, .int 12]))
  refine ⟨e0, kv1 l1 l2 l3 l4 l5, rfl, by show 5 ≤ 15; decide, h p l1 l2 l3 l4 l5 _ (fun b o e => ?_) hp upd_same ?_ ?_ ?_ ?_ ?_⟩
  · rw [upd_ne (ne_of_none e hp)]
    exact (s0.trans t1) _ _ e
  · rw [upd_ne (ne_of e1 e0 (by intro z; cases z)), e1, ten60]
  · rw [upd_ne (ne_of e2 e0 (by intro z; cases z))]; exact e2
  · rw [upd_ne (ne_of e3 e0 (by intro z; cases z))]; exact e3
  · rw [upd_ne (ne_of e4 e0 (by intro z; cases z))]; exact e4
  · rw [upd_ne (ne_of (upd_same) e0 (by intro z; cases z))]; exact upd_same
theorem tD2_of {σ : L2.St} {H : Hp} {Q : VK} (h : ∀ p l6 l7 H', Same H H' → H p = none → H' p = some (.dK (mergeK [] (kv2 l6 l7))) → H' l6 = some (.lst []) → H' l7 = some (.lst [.int 4, .int 121]) → Q (.ref p) H') : tD2 σ H Q := by
  unfold tD2
  intro p hp
  have s0 := same_new (o := .dK []) (Same.refl H) hp
  refine ⟨by decide, fun l6 n6 => ?_⟩
  have s6 := same_new (o := .lst []) (Same.refl _) n6
  refine ⟨by decide, fun l7 n7 => ?_⟩
  have s7 := same_new (o := .lst [.int 4, .int 121]) (Same.refl _) n7
  have e0 := (s6.trans s7) _ _ (upd_same (H := H) (a := p) (o := .dK []))
  have e6 := s7 _ _ (upd_same (a := l6) (o := .lst []))
  refine ⟨e0, kv2 l6 l7, rfl, by show 2 ≤ 15; decide, h p l6 l7 _ (fun b o e => ?_) hp upd_same ?_ ?_⟩
  · rw [upd_ne (ne_of_none e hp)]
    exact (s0.trans (s6.trans s7)) _ _ e
  · rw [upd_ne (ne_of e6 e0 (by intro z; cases z))]; exact e6
  · rw [upd_ne (ne_of upd_same e0 (by intro z; cases z))]; exact upd_same
theorem eqT_nil {K : PySem.W.Frag} {H : Hp} {a b : Addr} {xs : List V} {Q : VK} (ha : SqT K H a xs) (hf : ∀ x ∈ xs, flatTy x = true) (hb : SqT K H b []) (q : Q (.bl (decide (xs = []))) H) : rEqD K false (.ref a) (.ref b) H Q := by
  refine ⟨.tuple (xs.map datF), .tuple [], .tup ha (dats_flat hf), .tup hb .nil, shaped_flatT hf, by decide, (mixNilT _).1, ?_⟩
  rw [if_neg Bool.false_ne_true, (mixNilT _).2]
  have e : decide (xs.map datF = []) = decide (xs = []) := by cases xs <;> rfl
  rw [e]
  exact q
end TL


namespace TL
open PySem PySem.Spec PyProof.Rows PySem.SeqAt L2 L3
theorem stepOk_str (x : Str) (ps : List V) : stepOk (.str x :: ps) = (match boundsM x with | none => false | some bs => decide (ps.length = bs.length) && (ps.zip bs).all fun p => wIn p.1 p.2) := rfl
theorem all_take_succ {ps : List V} {bs : List Int} {i : Nat} {x : V} {b : Int} (h1 : ps[i]? = some x) (h2 : bs[i]? = some b) : ((ps.zip bs).take (i + 1)).all (fun p => wIn p.1 p.2) = (((ps.zip bs).take i).all (fun p => wIn p.1 p.2) && wIn x b) := by
  have zi : (ps.zip bs)[i]? = some (x, b) := by
    rw [List.getElem?_zip_eq_some]
    exact ⟨h1, h2⟩
  rw [List.take_add_one, zi, List.all_append]
  simp
theorem all_hit {ps : List V} {bs : List Int} {i : Nat} {x : V} {b : Int} (h1 : ps[i]? = some x) (h2 : bs[i]? = some b) (h : wIn x b = false) : (ps.zip bs).all (fun p => wIn p.1 p.2) = false := by
  rw [List.all_eq_false]
  have zi : (ps.zip bs)[i]? = some (x, b) := by
    rw [List.getElem?_zip_eq_some]
    exact ⟨h1, h2⟩
  exact ⟨(x, b), List.mem_of_getElem? zi, by rw [h]; exact Bool.false_ne_true⟩
section
variable {P : Program} {w : World} {K : PySem.W.Frag} {mg : Str → Option Value} {base : Heap}
theorem ok_IsNone {f : Addr} {fd : FuncData} (F : Fun K "_law_is_none" "_law_is_none" sIsNone f fd) (B : Bl mg) (hrg : mg "range" = none) : FnOk P w K mg base CX0 2 f fd ["_law_told"] spIsNone := by
  refine F.ok scIsNone (fun vs H Q E h => ?_) (fun cdv A outer s H vs Q E hr h => ?_)
  · obtain ⟨v, rfl, _⟩ := h
    rfl
  · obtain ⟨v, rfl, ⟨⟨Ty, hT⟩, hvw⟩, k⟩ := h
    have hu := hr.units
    have hu1 := hu_of hr
    obtain ⟨p1, p2, q1, q2, q3, q4, eb, hq⟩ := bodyIn
    rw [eb]
    refine ⟨_, pss_cons (ps_if (PW.pt (pw_or (pt_not (pt_val (pe_callB call_isi rfl B.isi boot_isinstance (pa_cons (pv 0) (pa_cons (pe_bltn (v := .ty "tuple") rfl B.tuple boot_tuple rfl) pa_nil)))))
        (pw_or (pt_cmpR (op_eqD hu) (pv 0) (pe_tup pa_nil) (nomark _))
        (pw_or1 (pt_not (pt_val (pe_callB call_isi rfl B.isi boot_isinstance (pa_cons (pe_ix ix_tup (pv 0) pe_int (fun _ _ => rfl)) (pa_cons (pe_bltn (v := .ty "str") rfl B.str boot_str rfl) pa_nil)))))))))
        (pss_one (ps_ret pe_bl)) pss_nil)
      (pss_cons (ps_set (i := 1) scIsNone.nd rfl (Or.inl rfl) pe_D1 sw_D1)
      (pss_cons (ps_expr (pe_dupd (pv 1) pe_D2 (m1_D2 hq)))
      (pss_cons (ps_if (PW.pt (pw_or (pt_cmp (pc_dnotin hu1 (pe_ix ix_tup (pv 0) pe_int (fun _ _ => rfl)) (pv 1)))
        (pw_or1 (pt_cmpR op_ne (pe_callB call_len_seq rfl B.len PySem.boot_len (pa_cons (pv 0) pa_nil)) (pe_op op_add (pe_callB call_len_seq rfl B.len PySem.boot_len (pa_cons (pe_dget hu1 (pv 1) (pe_ix ix_tup (pv 0) pe_int (fun _ _ => rfl)) (fun _ _ => rfl)) pa_nil)) pe_int) (nomark _)))))
        (pss_one (ps_ret pe_bl)) pss_nil)
      (pss_cons (ps_for PassesOwn.never rfl (pi_range2 rfl hrg (pa_cons pe_int (pa_cons (pe_callB call_len_seq rfl B.len PySem.boot_len (pa_cons (pv 0) pa_nil)) pa_nil))) (pg_name (i := 2) scIsNone.nd rfl (Or.inl rfl))
        (pss_cons (ps_set (i := 3) scIsNone.nd rfl (Or.inl rfl) (pe_ix ix_tup (pv 0) (pv 2) (fun _ _ => rfl)))
        (pss_one (ps_if (PW.pt (pw_or (pt_not (pt_val (pe_callB call_isi rfl B.isi boot_isinstance (pa_cons (pv 3) (pa_cons (pe_bltn (v := .ty "int") rfl B.int boot_int rfl) pa_nil)))))
          (pw_or (pt_val (pe_callB call_isi rfl B.isi boot_isinstance (pa_cons (pv 3) (pa_cons (pe_bltn (v := .ty "bool") rfl B.bool boot_bool rfl) pa_nil))))
          (pw_or1 (pt_not (pt_chain op_le op_lt pe_int (pv 3) (pe_ix ix_list (pe_dget hu1 (pv 1) (pe_ix ix_tup (pv 0) pe_int (fun _ _ => rfl)) (fun _ _ => rfl)) (pe_op op_sub (pv 2) pe_int) (fun _ _ => rfl))))))))
          (pss_one (ps_ret pe_bl)) pss_nil))))
      (pss_one (ps_ret pe_bl)))))), ?_⟩
    cases hv : viewT H v with
    | none =>
      have hi : isiB Ty "tuple" = false := by rw [noView hT, hv]; rfl
      have hst : isStep H v = false := by unfold isStep; rw [hv]
      have kk := k H (Same.refl H)
      rw [hst] at kk
      refine ⟨v, rfl, _, _, _, _, _, rfl, tyT hT, rfl, kitU hT (by decide), _, rfl, ?_⟩
      rw [hi]
      exact iteT (iteT kk)
    | some xs =>
    obtain ⟨a, e0, ha⟩ := viewT_ref hv
    subst e0
    obtain ⟨hl, hf⟩ := hvw xs hv
    have hi : isiB Ty "tuple" = true := by rw [noView hT, hv]; rfl
    have kk : ∀ H', Same H H' → Q (.bl (!stepOk xs)) H' := fun H' s => by
      have q := k H' s
      unfold isStep at q
      rw [hv] at q
      exact q
    refine ⟨_, rfl, _, _, _, _, _, rfl, tyT hT, rfl, kitU hT (by decide), _, rfl, ?_⟩
    rw [hi]
    refine iteF ⟨_, rfl, by decide, fun p0 n0 => ?_⟩
    have s0 : Same H (upd H p0 (.tup [])) := same_new (Same.refl H) n0
    refine eqT_nil (SqT.of (s0 _ _ ha)) hf (SqT.of upd_same) ⟨_, rfl, iteD (fun e => ?_) (fun ne => ?_)⟩
    · subst e
      exact iteT (kk _ s0)
    cases xs with
    | nil => exact absurd rfl ne
    | cons y ps =>
    have hy := hf y List.mem_cons_self
    obtain ⟨⟨Tyy, hTy⟩, _⟩ := flat_ty (H := upd H p0 (.tup [])) hy
    refine ⟨_, rfl, a, y :: ps, 0, y, rfl, rfl, SqT.of (s0 _ _ ha), atI_nat (j := 0) rfl, _, _, _, _, _, rfl, tyT hTy, rfl, kitU hTy (by decide), _, rfl, ?_⟩
    refine iteNB (fun h1 => ?_) (fun h1 => ?_)
    · have e : stepOk (y :: ps) = false := by
        cases y with
        | str x => exact absurd ((isiStr hTy).mpr ⟨x, rfl⟩) (by rw [h1]; exact Bool.false_ne_true)
        | _ => rfl
      have q := kk _ s0
      rw [e] at q
      exact q
    obtain ⟨x, e0⟩ := (isiStr hTy).mp h1
    subst e0
    refine tD1_of fun p l1 l2 l3 l4 l5 H1 s1 hp hD h1' h2' h3' h4' h5' => ?_
    refine ⟨_, rfl, p, rfl, .inl ⟨_, .inl hD⟩, tD2_of fun pp l6 l7 H2 s2 hpp hD2 h6 h7 => ?_⟩
    have np : p ≠ pp := ne_of_none hD hpp
    have hD' := s2 _ _ hD
    have far : ∀ {l : Addr} {zs : List V}, H2 l = some (.lst zs) → ∀ o, upd H2 p o l = some (.lst zs) := fun e o => by rw [upd_ne (ne_of e hD' (by intro z; cases z))]; exact e
    refine ⟨pp, _, _, rfl, np, hD', hD2, ?_, ?_⟩
    · have a1 := length_mergeK (kv1 l1 l2 l3 l4 l5) []
      have a2 := length_mergeK (kv2 l6 l7) []
      have a3 : (kv1 l1 l2 l3 l4 l5).length = 5 := rfl
      have a4 : (kv2 l6 l7).length = 2 := rfl
      have a5 : ([] : List (Key × V)).length = 0 := rfl
      rw [sizeLine_eq]
      omega
    have LO : LimOk (upd H2 p (.dK (mergeK (mergeK [] (kv1 l1 l2 l3 l4 l5)) (mergeK [] (kv2 l6 l7))))) (mergeK (mergeK [] (kv1 l1 l2 l3 l4 l5)) (mergeK [] (kv2 l6 l7))) :=
      lim_of (far (s2 _ _ h1') _) (far (s2 _ _ h2') _) (far (s2 _ _ h3') _) (far (s2 _ _ h4') _) (far (s2 _ _ h5') _) (far h6 _) (far h7 _)
    have hD3 : upd H2 p (.dK (mergeK (mergeK [] (kv1 l1 l2 l3 l4 l5)) (mergeK [] (kv2 l6 l7)))) p = some (.dK (mergeK (mergeK [] (kv1 l1 l2 l3 l4 l5)) (mergeK [] (kv2 l6 l7)))) := upd_same
    have s3 : Same H (upd H2 p (.dK (mergeK (mergeK [] (kv1 l1 l2 l3 l4 l5)) (mergeK [] (kv2 l6 l7))))) := fun b o e => by
      rw [upd_ne (ne_of_none (s0 _ _ e) hp)]
      exact (s0.trans (s1.trans s2)) _ _ e
    generalize upd H2 p (.dK (mergeK (mergeK [] (kv1 l1 l2 l3 l4 l5)) (mergeK [] (kv2 l6 l7)))) = H3 at LO hD3 s3
    generalize mergeK (mergeK [] (kv1 l1 l2 l3 l4 l5)) (mergeK [] (kv2 l6 l7)) = D at LO hD3
    have ha3 := s3 _ _ ha
    have hg := DGet.k (k := Sum.inr x) hD3
    refine ⟨_, rfl, a, _, 0, .str x, rfl, rfl, SqT.of ha3, atI_nat (j := 0) rfl, _, rfl, p, _, rfl, hg, _, rfl, ?_⟩
    cases hb : boundsM x with
    | none =>
      rw [(LO x).1 hb]
      have e : stepOk (.str x :: ps) = false := by rw [stepOk_str, hb]
      have q := kk _ s3
      rw [e] at q
      exact iteT (iteT q)
    | some bs =>
    obtain ⟨l, hv1, hl1⟩ := (LO x).2 bs hb
    have eS : stepOk (.str x :: ps) = (decide (ps.length = bs.length) && (ps.zip bs).all fun p => wIn p.1 p.2) := by rw [stepOk_str, hb]
    rw [eS] at kk
    rw [hv1] at hg ⊢
    refine iteF ⟨_, rfl, a, _, rfl, .inr (SqT.of ha3), _, rfl, _, rfl, a, _, 0, .str x, rfl, rfl, SqT.of ha3, atI_nat (j := 0) rfl, p, _, rfl, hg, l, _, rfl, .inl (SqL.of hl1), _, _, rfl, rfl, rfl, _, rfl, iteND (fun ne => ?_) (fun eq => ?_)⟩
    · have e : decide (ps.length = bs.length) = false := decide_eq_false fun z => ne (by rw [List.length_cons, List.length_map, z]; rfl)
      have q := kk _ s3
      rw [e, Bool.false_and] at q
      exact q
    have hlen : ps.length = bs.length := by
      injection eq with eq
      rw [List.length_cons, List.length_map] at eq
      omega
    rw [decide_eq_true hlen, Bool.true_and] at kk
    have hl' : ps.length ≤ 999 := by rw [List.length_cons] at hl; omega
    have en : (((V.str x :: ps).length : Int) - 1).toNat = ps.length := by rw [List.length_cons]; omega
    refine ⟨_, rfl, a, _, rfl, .inr (SqT.of ha3), 1, _, rfl, ⟨by decide, by decide, by rw [List.length_cons]; omega, by rw [List.length_cons]; omega⟩, for_range (fun i σ H' => i ≤ ps.length ∧ ∃ c d, σ = [some (.ref a), some (.ref p), c, d] ∧ H' = H3 ∧ ((ps.zip bs).take i).all (fun p => wIn p.1 p.2) = true) ⟨Nat.zero_le _, none, none, rfl, rfl, rfl⟩ ?_ ?_⟩
    · rintro i σ H' hi ⟨_, c, d, rfl, rfl, hal⟩
      rw [en] at hi
      have hpi : ps[i]? = some ps[i] := List.getElem?_eq_getElem hi
      have hbi : bs[i]? = some (bs[i]'(by omega)) := List.getElem?_eq_getElem (by omega)
      have fx := hf ps[i] (List.mem_cons_of_mem _ (List.getElem_mem hi))
      have at1 : atI (V.str x :: ps) (1 + (i : Int)) = some ps[i] := by
        have e : (1 : Int) + (i : Int) = ((i + 1 : Nat) : Int) := by omega
        rw [e]
        exact atI_nat (by rw [List.getElem?_cons_succ]; exact hpi)
      have bad : wIn ps[i] (bs[i]'(by omega)) = false → Q (.bl true) H' := fun h => by
        have q := kk _ s3
        rw [all_hit hpi hbi h] at q
        exact q
      have good : wIn ps[i] (bs[i]'(by omega)) = true → ((ps.zip bs).take (i + 1)).all (fun p => wIn p.1 p.2) = true := fun h => by rw [all_take_succ hpi hbi, hal, h]; rfl
      refine ⟨_, rfl, _, rfl, a, _, 1 + (i : Int), ps[i], rfl, rfl, SqT.of ha3, at1, ?_⟩
      obtain ⟨⟨Tn, hTn⟩, _⟩ := flat_ty (H := H') fx
      generalize ps[i] = xi at fx at1 bad good hTn
      refine ⟨_, rfl, _, _, _, _, _, rfl, tyT hTn, rfl, kitU hTn (by decide), _, rfl, ?_⟩
      cases xi with
      | int j =>
        cases hTn
        refine iteF ⟨_, rfl, _, _, _, _, _, rfl, .int j, rfl, kitU (H := H') (v := .int j) rfl (by decide), _, rfl, iteF ?_⟩
        refine ⟨_, rfl, _, _, rfl, rfl, _, rfl, iteD (fun h0 => ?_) (fun h0 => ?_)⟩
        · refine ⟨_, rfl, _, rfl, a, _, 0, .str x, rfl, rfl, SqT.of ha3, atI_nat (j := 0) rfl, p, _, rfl, hg, _, rfl, _, _, rfl, rfl, l, _, _, .int (bs[i]'(by omega)), rfl, rfl, SqL.of hl1, ?_, _, _, rfl, rfl, _, rfl, iteND (fun h2 => ?_) (fun h2 => ?_)⟩
          · have e : (1 : Int) + (i : Int) - 1 = ((i : Nat) : Int) := by omega
            rw [e]
            exact atI_nat (by rw [List.getElem?_map, hbi]; rfl)
          · exact bad (by show (decide (0 ≤ j) && decide (j < _)) = false; rw [decide_eq_false h2, Bool.and_false])
          · exact ⟨hi, _, _, rfl, rfl, good (by show (decide (0 ≤ j) && decide (j < _)) = true; rw [decide_eq_true h0, decide_eq_true h2]; rfl)⟩
        · exact ⟨_, rfl, iteT (bad (by show (decide (0 ≤ j) && decide (j < _)) = false; rw [decide_eq_false h0, Bool.false_and]))⟩
      | bl b =>
        cases hTn
        exact iteF ⟨_, rfl, _, _, _, _, _, rfl, .bl b, rfl, kitU (H := H') (v := .bl b) rfl (by decide), _, rfl, iteT (iteT (bad rfl))⟩
      | str z =>
        cases hTn
        exact iteT (iteT (bad rfl))
      | non =>
        cases hTn
        exact iteT (iteT (bad rfl))
      | _ => cases fx
    · rintro σ H' ⟨_, c, d, rfl, rfl, hal⟩
      rw [en, List.take_of_length_le (by rw [List.length_zip]; omega)] at hal
      have q := kk _ s3
      rw [hal] at q
      exact q
end
end TL


namespace TL
open PySem PySem.Spec PyProof.Rows PySem.SeqAt L2 L3
/-- a told thing stays one where a list changes -/
theorem told_mut {H : Hp} {l : Addr} {xs zs : List V} {v : V} (hl : H l = some (.lst xs)) (h : Told H v) : Told (upd H l (.lst zs)) v := by
  obtain ⟨⟨T, hT⟩, hx⟩ := h
  cases v with
  | ref a =>
    by_cases e : a = l
    · subst e
      exact told_lst upd_same
    · refine ⟨⟨T, ?_⟩, fun xs q => hx xs ?_⟩
      · unfold tyName at hT ⊢
        simp only [upd_ne e]
        exact hT
      · unfold viewT at q ⊢
        simp only [upd_ne e] at q
        exact q
  | _ => exact ⟨⟨T, hT⟩, hx⟩
/-- a list of lists of told things, all of them made behind H0 -/
structure PartsAt (H0 H : Hp) (l : Addr) (rs : List Addr) : Prop where
  at_ : H l = some (.lst (rs.map V.ref))
  new : H0 l = none
  nd : rs.Nodup
  out : l ∉ rs
  each : ∀ r ∈ rs, H0 r = none ∧ ∃ ys, H r = some (.lst ys) ∧ ys.length ≤ 200 ∧ ∀ y ∈ ys, Told H y
section
variable {P : Program} {w : World} {K : PySem.W.Frag} {mg : Str → Option Value} {base : Heap}
def spParts (K : PySem.W.Frag) : Sp := fun vs H Q _ => ∃ (a : Addr) (ns : List Int), vs = [.ref a] ∧ SqL K H a (ns.map V.int) ∧ ∀ l rs H', Same H H' → PartsAt H H' l rs → 1 ≤ rs.length → rs.length ≤ 4 → Q (.ref l) H'
theorem scParts : FnScope ["_law_script", "_law_parts_here", "_law_clerk", "_law_cell", "_law_size"] ["_law_script"] (defScope sParts) := ⟨rfl, rfl, rfl, by decide +kernel, rfl, by decide +kernel, by decide +kernel⟩
theorem nd_ck : (["_law_cell", "_law_k"] : List Str).Nodup := by decide +kernel
theorem ok_Parts {f fC fM fL : Addr} {fd fdC fdM fdL : FuncData} (F : Fun K "_law_parts" "_law_parts" sParts f fd) (hrg : mg "range" = none)
    (GC : FnOk P w K mg base CX0 1 fC fdC ["_law_script", "_law_k"] (spCell K)) (kC : PySem.W.keepIn K (.ref fC) = true) (bC : Binds K fdC ["_law_script", "_law_k"] []) (mC : mg "_law_cell_at" = some (.ref fC))
    (GM : FnOk P w K mg base CX0 1 fM fdM ["_law_cell", "_law_k"] spMix) (kM : PySem.W.keepIn K (.ref fM) = true) (bM : Binds K fdM ["_law_cell", "_law_k"] []) (mM : mg "_law_mixed" = some (.ref fM))
    (GL : FnOk P w K mg base CX0 1 fL fdL ["_law_draw", "_law_cell"] spTd) (kL : PySem.W.keepIn K (.ref fL) = true) (bL : Binds K fdL ["_law_draw", "_law_cell"] []) (mL : mg "_law_step" = some (.ref fL)) :
    FnOk P w K mg base CX0 2 f fd ["_law_script"] (spParts K) := by
  refine F.ok scParts (fun vs H Q E h => ?_) (fun cdv A outer s H vs Q E hr h => ?_)
  · obtain ⟨a, ns, rfl, _⟩ := h
    rfl
  · obtain ⟨a, ns, rfl, hS, k⟩ := h
    refine ⟨_, pss_cons (ps_set (i := 1) scParts.nd rfl (Or.inl rfl) (pe_lst pa_nil))
      (pss_cons (ps_for PassesOwn.never rfl (pi_range1 rfl hrg (pa_cons (pe_op op_add pe_int (pe_op op_mod (pe_call GC hr rfl mC kC bC .nil pass0 (pa_cons (pv 0) (pa_cons pe_int pa_nil))) pe_int)) pa_nil)) (pg_name (i := 2) scParts.nd rfl (Or.inl rfl))
        (pss_cons (ps_set (i := 3) scParts.nd rfl (Or.inr rfl) (pe_call GC hr rfl mC kC bC .nil pass0 (pa_cons (pv 0) (pa_cons (pe_op op_add pe_int (pv 2)) pa_nil))))
        (pss_cons (ps_set (i := 4) scParts.nd rfl (Or.inl rfl) (pe_op op_mod (pv 3) pe_int))
        (pss_cons (ps_if (pt_cmpR op_eq (pe_op op_mod (pe_op op_fdiv (pe_call GC hr rfl mC kC bC .nil pass0 (pa_cons (pv 0) (pa_cons pe_int pa_nil))) pe_int) pe_int) pe_int (nomark _)) (pss_one (ps_set (i := 4) scParts.nd rfl (Or.inl rfl) (pe_op op_add pe_int (pe_op op_mod (pv 3) pe_int)))) pss_nil)
        (pss_one (ps_expr (pe_bm PySem.F.plainAttrs_list PySem.F.slot_list_append PySem.F.type_list_append mt_append (pv 1)
          (pa_cons (pe_comp (N := ["_law_cell", "_law_k"]) (idx := [3]) rfl (ScC.of (by kernel_rfl)) (gkeep_name (Nat.le_refl _)) (pi_range1 rfl hrg (pa_cons (pv 4) pa_nil))
            (fun _ _ _ _ => pg_name (i := 1) nd_ck rfl (Or.inl rfl) (.inr rfl)) (fun _ _ _ _ => pts_nil)
            (fun _ _ _ _ => pe_call GL hr rfl mL kL bL .nil pass0 (pa_cons (pe_call GM hr rfl mM kM bM .nil pass0 (pa_cons (pv 0) (pa_cons (pv 1) pa_nil))) (pa_cons (pv 0) pa_nil)))) pa_nil))))))))
      (pss_one (ps_ret (pv 1)))), ?_⟩
    refine ⟨by decide, fun lp nlp => ?_⟩
    have s1 : Same H (upd H lp (.lst [])) := same_new (Same.refl H) nlp
    have hc4 : 0 ≤ cellM ns 0 % 4 ∧ cellM ns 0 % 4 < 4 := ⟨Int.emod_nonneg _ (by decide), Int.emod_lt_of_pos _ (by decide)⟩
    refine ⟨_, rfl, a, ns, 0, rfl, s1.seq hS, by decide, _, _, rfl, rfl, (by show (0 : Int) < 4; decide), _, _, rfl, rfl, _, rfl, by omega, by omega, ?_⟩
    have e1 : (1 + cellM ns 0 % 4).toNat ≤ 4 ∧ 1 ≤ (1 + cellM ns 0 % 4).toNat := by omega
    generalize (1 + cellM ns 0 % 4).toNat = cn at e1
    refine for_range (n := cn) (fun i σ H' => i ≤ cn ∧ ∃ ck cl sz rs, σ = [some (.ref a), some (.ref lp), ck, cl, sz] ∧ Same H H' ∧ PartsAt H H' lp rs ∧ rs.length = i)
      ⟨Nat.zero_le _, none, none, none, [], rfl, s1, ⟨upd_same, nlp, List.nodup_nil, (fun z => by cases z), fun _ z => by cases z⟩, rfl⟩ ?_ ?_
    · rintro i σ H1 hi ⟨_, ck, cl, sz0, rs, rfl, t1, ⟨h1, _, hnd, hlrs, hrs⟩, hrl⟩
      refine ⟨_, rfl, _, rfl, _, _, rfl, rfl, a, ns, _, rfl, t1.seq hS, by omega, ?_⟩
      generalize cellM ns (1 + (0 + (i : Int))) = c
      refine ⟨_, rfl, _, _, rfl, rfl, (by show (0 : Int) < 21; decide), ?_⟩
      refine ⟨_, rfl, a, ns, 0, rfl, t1.seq hS, by decide, _, _, rfl, rfl, ⟨by decide, by decide⟩, _, _, rfl, rfl, (by show (0 : Int) < 16; decide), rfl, _, rfl, iteD (fun _ => ?_) (fun _ => ?_)⟩
      · refine ⟨_, rfl, _, _, rfl, rfl, (by show (0 : Int) < 5; decide), _, _, rfl, rfl, ?_⟩
        have hz0 : 0 ≤ 118 + c % 5 ∧ 118 + c % 5 ≤ 122 := by have := Int.emod_nonneg c (show (5 : Int) ≠ 0 by decide); have := Int.emod_lt_of_pos c (show (0 : Int) < 5 by decide); omega
        refine ⟨_, rfl, .inl ⟨rfl, _, SqL.of h1⟩, _, rfl, _, rfl, by omega, by omega, ?_⟩
        have hsz : (118 + c % 5).toNat ≤ 122 := by omega
        refine compW_of (n := (118 + c % 5).toNat) (fun j ys H2 => j ≤ (118 + c % 5).toNat ∧ Same H1 H2 ∧ ys.length = j ∧ ∀ y ∈ ys, Told H2 y) ?_ ?_ ?_ ?_ ?_ ?_ ?_
        · exact Nat.le_of_lt (small1000 (by omega))
        · exact ⟨Nat.zero_le _, Same.refl _, rfl, fun _ z => by cases z⟩
        · rintro j ys H2 ⟨_, _, e, _⟩
          exact Nat.le_of_eq e
        · rintro j ys H2 hj _
          exact hj
        · rintro ys H2 _
          exact Nat.le_refl _
        · rintro j ys H2 hj ⟨_, s2, e, ht⟩ x H3 ⟨eH, ex⟩
          subst eH
          subst ex
          refine ⟨_, rfl, _, rfl, _, _, rfl, _, rfl, _, _, rfl, fun v H4 s4 hv4 => ⟨hj, s2.trans s4, ?_, fun y hy => ?_⟩⟩
          · rw [List.length_append, e]; rfl
          · rcases List.mem_append.mp hy with h | h
            · exact (ht y h).same s4
            · rw [List.mem_singleton.mp h]; exact hv4
        · rintro ys H2 ⟨_, s2, e, ht⟩
          refine ⟨Nat.le_of_lt (small1000 (by omega)), fun r hr0 => ?_⟩
          have h2 := s2 _ _ h1
          have nlr : lp ≠ r := ne_of_none h2 hr0
          have s3 : Same H1 (upd H2 r (.lst ys)) := same_new s2 hr0
          have hlr : upd H2 r (.lst ys) lp = some (.lst (rs.map V.ref)) := by rw [upd_ne nlr]; exact h2
          refine ⟨lp, _, _, rfl, rfl, hlr, by rw [List.length_map]; exact small1000 (by omega), ?_⟩
          have keep : ∀ b o, b ≠ lp → H2 b = some o → upd (upd H2 r (.lst ys)) lp (.lst (rs.map V.ref ++ [.ref r])) b = some o := fun b o nb e => by rw [upd_ne nb, upd_ne (ne_of_none e hr0)]; exact e
          refine ⟨by omega, _, _, _, rs ++ [r], rfl, fun b o e => keep b o (ne_of_none e nlp) (s2 _ _ (t1 _ _ e)), ⟨?_, nlp, ?_, ?_, fun q hq => ?_⟩, by rw [List.length_append, hrl]; rfl⟩
          · rw [upd_same, List.map_append]; rfl
          · refine List.nodup_append.mpr ⟨hnd, List.nodup_cons.mpr ⟨by simp, List.nodup_nil⟩, fun x hx y hy => ?_⟩
            rw [List.mem_singleton.mp hy]
            obtain ⟨_, zs, hz1, _⟩ := hrs x hx
            exact ne_of_none (s2 _ _ hz1) hr0
          · intro hm
            rcases List.mem_append.mp hm with h | h
            · exact hlrs h
            · exact nlr (List.mem_singleton.mp h)
          · have told_keep : ∀ y, Told H2 y → Told (upd (upd H2 r (.lst ys)) lp (.lst (rs.map V.ref ++ [.ref r]))) y := fun y hy => told_mut hlr ((hy.same (same_new (Same.refl _) hr0)))
            rcases List.mem_append.mp hq with h | h
            · obtain ⟨z0, zs, hz1, hz2, hz3⟩ := hrs q h
              exact ⟨z0, zs, keep q _ (fun z => hlrs (z ▸ h)) (s2 _ _ hz1), hz2, fun y hy => told_keep y ((hz3 y hy).same s2)⟩
            · rw [List.mem_singleton.mp h]
              refine ⟨(t1.trans s2).free hr0, ys, by rw [upd_ne (Ne.symm nlr)]; exact upd_same, by omega, fun y hy => told_keep y (ht y hy)⟩
      · have hz0 : 0 ≤ c % 21 ∧ c % 21 ≤ 122 := by have := Int.emod_nonneg c (show (21 : Int) ≠ 0 by decide); have := Int.emod_lt_of_pos c (show (0 : Int) < 21 by decide); omega
        refine ⟨_, rfl, .inl ⟨rfl, _, SqL.of h1⟩, _, rfl, _, rfl, by omega, by omega, ?_⟩
        have hsz : (c % 21).toNat ≤ 122 := by omega
        refine compW_of (n := (c % 21).toNat) (fun j ys H2 => j ≤ (c % 21).toNat ∧ Same H1 H2 ∧ ys.length = j ∧ ∀ y ∈ ys, Told H2 y) ?_ ?_ ?_ ?_ ?_ ?_ ?_
        · exact Nat.le_of_lt (small1000 (by omega))
        · exact ⟨Nat.zero_le _, Same.refl _, rfl, fun _ z => by cases z⟩
        · rintro j ys H2 ⟨_, _, e, _⟩
          exact Nat.le_of_eq e
        · rintro j ys H2 hj _
          exact hj
        · rintro ys H2 _
          exact Nat.le_refl _
        · rintro j ys H2 hj ⟨_, s2, e, ht⟩ x H3 ⟨eH, ex⟩
          subst eH
          subst ex
          refine ⟨_, rfl, _, rfl, _, _, rfl, _, rfl, _, _, rfl, fun v H4 s4 hv4 => ⟨hj, s2.trans s4, ?_, fun y hy => ?_⟩⟩
          · rw [List.length_append, e]; rfl
          · rcases List.mem_append.mp hy with h | h
            · exact (ht y h).same s4
            · rw [List.mem_singleton.mp h]; exact hv4
        · rintro ys H2 ⟨_, s2, e, ht⟩
          refine ⟨Nat.le_of_lt (small1000 (by omega)), fun r hr0 => ?_⟩
          have h2 := s2 _ _ h1
          have nlr : lp ≠ r := ne_of_none h2 hr0
          have s3 : Same H1 (upd H2 r (.lst ys)) := same_new s2 hr0
          have hlr : upd H2 r (.lst ys) lp = some (.lst (rs.map V.ref)) := by rw [upd_ne nlr]; exact h2
          refine ⟨lp, _, _, rfl, rfl, hlr, by rw [List.length_map]; exact small1000 (by omega), ?_⟩
          have keep : ∀ b o, b ≠ lp → H2 b = some o → upd (upd H2 r (.lst ys)) lp (.lst (rs.map V.ref ++ [.ref r])) b = some o := fun b o nb e => by rw [upd_ne nb, upd_ne (ne_of_none e hr0)]; exact e
          refine ⟨by omega, _, _, _, rs ++ [r], rfl, fun b o e => keep b o (ne_of_none e nlp) (s2 _ _ (t1 _ _ e)), ⟨?_, nlp, ?_, ?_, fun q hq => ?_⟩, by rw [List.length_append, hrl]; rfl⟩
          · rw [upd_same, List.map_append]; rfl
          · refine List.nodup_append.mpr ⟨hnd, List.nodup_cons.mpr ⟨by simp, List.nodup_nil⟩, fun x hx y hy => ?_⟩
            rw [List.mem_singleton.mp hy]
            obtain ⟨_, zs, hz1, _⟩ := hrs x hx
            exact ne_of_none (s2 _ _ hz1) hr0
          · intro hm
            rcases List.mem_append.mp hm with h | h
            · exact hlrs h
            · exact nlr (List.mem_singleton.mp h)
          · have told_keep : ∀ y, Told H2 y → Told (upd (upd H2 r (.lst ys)) lp (.lst (rs.map V.ref ++ [.ref r]))) y := fun y hy => told_mut hlr ((hy.same (same_new (Same.refl _) hr0)))
            rcases List.mem_append.mp hq with h | h
            · obtain ⟨z0, zs, hz1, hz2, hz3⟩ := hrs q h
              exact ⟨z0, zs, keep q _ (fun z => hlrs (z ▸ h)) (s2 _ _ hz1), hz2, fun y hy => told_keep y ((hz3 y hy).same s2)⟩
            · rw [List.mem_singleton.mp h]
              refine ⟨(t1.trans s2).free hr0, ys, by rw [upd_ne (Ne.symm nlr)]; exact upd_same, by omega, fun y hy => told_keep y (ht y hy)⟩
    · rintro σ H1 ⟨_, ck, cl, sz0, rs, rfl, t1, hP, hrl⟩
      exact ⟨_, rfl, k lp rs H1 t1 hP (by omega) (by omega)⟩
end
end TL


namespace L2
open PySem PySem.Spec PyProof.Rows PySem.SeqAt
/-- a list != [] -/
theorem op_neNil {X : Cx} (hu : X.A.units + 64 < cLine) : OpR X (compareOp .NotEq) (fun x y H Q => ∃ a b xs, x = .ref a ∧ y = .ref b ∧ H a = some (.lst xs) ∧ H b = some (.lst []) ∧ Q (.bl (!decide (xs = []))) H) := by
  intro pins s σ H x y v u Q I rx ry h
  obtain ⟨a, b, xs, rfl, rfl, ha, hb, q⟩ := h
  by_cases e : xs = []
  · subst e
    refine op_neD hu pins s σ H _ _ v u Q I rx ry ⟨.list [], .list [], .lst (SqL.of ha) .nil, .lst (SqL.of hb) .nil, by decide, by decide, by simp [noMix, noMixAll], ?_⟩
    have e1 : same (.list []) (.list []) = true := by simp [same, sameAll]
    rw [if_pos rfl, e1]
    exact q
  · cases rx
    cases ry
    obtain ⟨z, its, n, r, hl, e1⟩ := I.lstM ha
    obtain ⟨z2, its2, n2, r2, hl2, e2⟩ := I.lstM hb
    rw [decide_eq_false e] at q
    have hz : its2 = [] := List.length_eq_zero_iff.mp (by rw [← hl2]; rfl)
    subst hz
    have hs : (its.toArray.size != ([] : List Value).toArray.size) = true := by
      rw [bne_iff_ne, List.size_toArray, ← hl]
      intro h0
      exact e (List.length_eq_zero_iff.mp h0)
    show wpAny _ _ (richCompare .NotEq (.ref a) (.ref b)) _ _ s
    exact richCompare_meets_room ⟨_, e1, rfl⟩ ⟨_, e2, rfl⟩ F.slot_list_ne F.entry_list_ne (F.args_list_ne_2 _ _) (list_ne_lengthsAt a b _ _ _ _ _ _ _ _ hs) ⟨e1, e2, (by intro z; cases z), ⟨.bl true, H, I, rfl, q⟩⟩ (by omega)
end L2
namespace TL
open PySem PySem.Spec PyProof.Rows PySem.SeqAt L2 L3
theorem PartsAt.same {H0 H H' : Hp} {l : Addr} {rs : List Addr} (p : PartsAt H0 H l rs) (s : Same H H') : PartsAt H0 H' l rs :=
  ⟨s _ _ p.at_, p.new, p.nd, p.out, fun r hr => by
    obtain ⟨h0, ys, h1, h2, h3⟩ := p.each r hr
    exact ⟨h0, ys, s _ _ h1, h2, fun y hy => (h3 y hy).same s⟩⟩
theorem PartsAt.set {H0 H : Hp} {l r : Addr} {rs : List Addr} {ys : List V} {j : Nat} {v : V} (p : PartsAt H0 H l rs) (hr : r ∈ rs) (hy : H r = some (.lst ys)) (hv : Told H v) : PartsAt H0 (upd H r (.lst (ys.set j v))) l rs := by
  have nl : l ≠ r := fun z => p.out (z ▸ hr)
  obtain ⟨h0, ys', h1, h2, h3⟩ := p.each r hr
  rw [hy] at h1
  cases h1
  refine ⟨by rw [upd_ne nl]; exact p.at_, p.new, p.nd, p.out, fun q hq => ?_⟩
  by_cases e : q = r
  · subst e
    refine ⟨h0, _, upd_same, by rw [List.length_set]; exact h2, fun y hy1 => told_mut hy ?_⟩
    rcases List.mem_or_eq_of_mem_set hy1 with h | h
    · exact h3 y h
    · rw [h]; exact hv
  · obtain ⟨g0, zs, g1, g2, g3⟩ := p.each q hq
    exact ⟨g0, zs, by rw [upd_ne e]; exact g1, g2, fun y hy1 => told_mut hy (g3 y hy1)⟩
theorem same_mut {H0 H : Hp} {r : Addr} {o : HO} (s : Same H0 H) (h : H0 r = none) : Same H0 (upd H r o) := fun b u e => by
  rw [upd_ne (ne_of_none e h)]
  exact s b u e
theorem ixN_mod {n : Nat} {d : Int} (h : 0 < n) : ixN n (d % (n : Int)) = some (d % (n : Int)).toNat := by
  have b1 : 0 ≤ d % (n : Int) := Int.emod_nonneg _ (by omega)
  have b2 : d % (n : Int) < n := Int.emod_lt_of_pos _ (by omega)
  unfold ixN
  split <;> rename_i h1
  · first | rfl | (simp; done) | (split <;> simp_all <;> omega)
  · first | (exfalso; omega) | (simp_all; omega) | (split <;> simp_all <;> omega)
section
variable {P : Program} {w : World} {K : PySem.W.Frag} {mg : Str → Option Value} {base : Heap}
def spCh : Sp := fun vs H Q _ => ∃ H0 l rs c k, vs = [.ref l, .int c, .int k] ∧ Same H0 H ∧ PartsAt H0 H l rs ∧ 1 ≤ rs.length ∧ rs.length ≤ 4 ∧ ∀ H', Same H0 H' → PartsAt H0 H' l rs → Q .non H'
theorem scCh : FnScope ["_law_parts_here", "_law_cell", "_law_k", "_law_draw", "_law_part", "_law_at"] ["_law_parts_here", "_law_cell", "_law_k"] (defScope sChanged) := ⟨rfl, rfl, rfl, by decide +kernel, rfl, by decide +kernel, by decide +kernel⟩
theorem ok_Ch {f fM fL : Addr} {fd fdM fdL : FuncData} (F : Fun K "_law_changed" "_law_changed" sChanged f fd) (hln : mg "len" = none)
    (GM : FnOk P w K mg base CX0 1 fM fdM ["_law_cell", "_law_k"] spMix) (kM : PySem.W.keepIn K (.ref fM) = true) (bM : Binds K fdM ["_law_cell", "_law_k"] []) (mM : mg "_law_mixed" = some (.ref fM))
    (GN : FnOk P w K mg base CX0 1 fL fdL ["_law_draw", "_law_cell"] spTd) (kN : PySem.W.keepIn K (.ref fL) = true) (bN : Binds K fdL ["_law_draw", "_law_cell"] []) (mN : mg "_law_none" = some (.ref fL)) :
    FnOk P w K mg base CX0 2 f fd ["_law_parts_here", "_law_cell", "_law_k"] spCh := by
  refine F.ok scCh (fun vs H Q E h => ?_) (fun cdv A outer s H vs Q E hr h => ?_)
  · obtain ⟨H0, l, rs, c, k, rfl, _⟩ := h
    rfl
  · obtain ⟨H0, l, rs, c, j, rfl, s0, pt, hr1, hr4, k⟩ := h
    have hu := hr.units
    refine ⟨_, pss_cons (ps_set (i := 3) scCh.nd rfl (Or.inl rfl) (pe_call GM hr rfl mM kM bM .nil pass0 (pa_cons (pv 1) (pa_cons (pv 2) pa_nil))))
      (pss_cons (ps_set (i := 4) scCh.nd rfl (Or.inl rfl) (pe_ix ix_list (pv 0) (pe_op op_mod (pv 3) (pe_callB call_len_seq rfl hln PySem.boot_len (pa_cons (pv 0) pa_nil))) (fun _ _ => rfl)))
      (pss_one (ps_if (pt_cmpR (op_neNil hu) (pv 4) (pe_lst pa_nil) (nomark _))
        (pss_cons (ps_set (i := 5) scCh.nd rfl (Or.inl rfl) (pe_op op_mod (pe_op op_fdiv (pv 3) pe_int) (pe_callB call_len_seq rfl hln PySem.boot_len (pa_cons (pv 4) pa_nil))))
        (pss_cons (ps_asg (pe_call GN hr rfl mN kN bN .nil pass0 (pa_cons (pe_op op_fdiv (pv 3) pe_int) (pa_cons (pv 1) pa_nil))) (pg_sub (pv 4) (pv 5) set_list))
        (pss_one (ps_if (pt_cmpR op_eq (pe_op op_mod (pe_op op_fdiv (pv 3) pe_int) pe_int) pe_int (nomark _))
          (pss_one (ps_asg (pe_tup (pa_cons pe_str (pa_cons pe_int (pa_cons (pe_ix ix_list (pe_lst (pa_cons (pe_callB call_len_seq rfl hln PySem.boot_len (pa_cons (pv 4) pa_nil)) (pa_cons (pe_op op_add (pe_callB call_len_seq rfl hln PySem.boot_len (pa_cons (pv 4) pa_nil)) pe_int) (pa_cons (pe_op op_mod (pv 3) pe_int) pa_nil))))
            (pe_op op_mod (pe_op op_fdiv (pv 3) pe_int) pe_int) (fun _ _ => rfl)) pa_nil)))) (pg_sub (pv 4) (pv 5) set_list))) pss_nil)))) pss_nil))), ?_⟩
    refine ⟨_, rfl, _, rfl, c, j, rfl, ?_⟩
    have hd := mixedM_b c j
    generalize mixedM c j = d at hd
    have hlr : (rs.map V.ref).length = rs.length := List.length_map ..
    obtain ⟨v, hv, hm⟩ := at_mem (xs := rs.map V.ref) (d := d) hlr (by omega)
    obtain ⟨r, hrm, er⟩ := List.mem_map.mp hm
    subst er
    obtain ⟨h0r, ys, hy, hyl, hyt⟩ := pt.each r hrm
    refine ⟨_, rfl, _, rfl, _, rfl, l, _, rfl, .inl (SqL.of pt.at_), _, _, rfl, rfl, by rw [hlr]; show (0 : Int) < _; omega, l, _, _, .ref r, rfl, rfl, SqL.of pt.at_, by rw [hlr]; exact hv, ?_⟩
    refine ⟨_, rfl, by decide, fun p0 n0 => ?_⟩
    have s1 : Same H (upd H p0 (.lst [])) := same_new (Same.refl H) n0
    have hy1 := s1 _ _ hy
    have pt1 := pt.same s1
    have q1 : upd H p0 (.lst []) p0 = some (.lst []) := upd_same
    have s01 := s0.trans s1
    generalize upd H p0 (.lst []) = H1 at s1 hy1 pt1 q1 s01
    refine ⟨r, p0, ys, rfl, rfl, hy1, q1, _, rfl, iteND (fun ne => ?_) (fun eq => ?_)⟩
    · have hpos : 0 < ys.length := List.length_pos_iff.mpr ne
      refine ⟨_, rfl, _, _, rfl, rfl, ⟨by decide, by decide⟩, _, rfl, r, ys, rfl, .inl (SqL.of hy1), _, _, rfl, rfl, by show (0 : Int) < _; omega, ?_⟩
      refine ⟨_, rfl, _, _, rfl, rfl, ⟨by decide, by decide⟩, _, rfl, _, _, rfl, fun v1 H2 s2 hv1 => ?_⟩
      have hy2 := s2 _ _ hy1
      have pt2 := pt1.same s2
      have s02 := s01.trans s2
      refine ⟨_, rfl, _, rfl, r, ys, _, _, rfl, rfl, hy2, ixN_mod hpos, ?_⟩
      have pt3 := pt2.set (j := (d / 4 % (ys.length : Int)).toNat) hrm hy2 hv1
      have s03 := same_mut (o := .lst (ys.set (d / 4 % (ys.length : Int)).toNat v1)) s02 h0r
      have hy3 : upd H2 r (.lst (ys.set (d / 4 % (ys.length : Int)).toNat v1)) r = some (.lst (ys.set (d / 4 % (ys.length : Int)).toNat v1)) := upd_same
      have hl3 : (ys.set (d / 4 % (ys.length : Int)).toNat v1).length = ys.length := List.length_set
      generalize upd H2 r (.lst (ys.set (d / 4 % (ys.length : Int)).toNat v1)) = H3 at pt3 s03 hy3
      generalize ys.set (d / 4 % (ys.length : Int)).toNat v1 = ys3 at hy3 hl3
      refine ⟨_, rfl, _, _, rfl, rfl, ⟨by decide, by decide⟩, _, _, rfl, rfl, (by show (0 : Int) < 3; decide), rfl, _, rfl, iteD (fun _ => ?_) (fun _ => ?_)⟩
      · refine ⟨_, rfl, r, ys3, rfl, .inl (SqL.of hy3), _, rfl, r, ys3, rfl, .inl (SqL.of hy3), _, _, rfl, rfl, _, rfl, _, _, rfl, rfl, (by show (0 : Int) < 121; decide), by show 3 ≤ sizeLine; decide, fun p4 n4 => ?_⟩
        obtain ⟨v4, hv4, hm4⟩ := at_mem (xs := [V.int ys3.length, V.int (ys3.length + 1), V.int (d % 121)]) (d := d / 1536) (n := 3) rfl (by decide)
        have f4 : flatTy v4 = true := by
          simp only [List.mem_cons, List.mem_nil_iff, or_false] at hm4
          rcases hm4 with e | e | e <;> rw [e] <;> rfl
        have s4 : Same H3 (upd H3 p4 (.lst [V.int ys3.length, V.int (ys3.length + 1), V.int (d % 121)])) := same_new (Same.refl _) n4
        refine ⟨_, rfl, _, _, rfl, rfl, ⟨by decide, by decide⟩, _, _, rfl, rfl, (by show (0 : Int) < 3; decide), p4, _, _, v4, rfl, rfl, SqL.of upd_same, hv4, by show 3 ≤ sizeLine; decide, fun p5 n5 => ?_⟩
        have s5 := s4.trans (same_new (o := .tup [.str "skip", .int 1, v4]) (Same.refl _) n5)
        have hy5 := s5 _ _ hy3
        have t5 : Told (upd (upd H3 p4 (.lst [V.int ys3.length, V.int (ys3.length + 1), V.int (d % 121)])) p5 (.tup [.str "skip", .int 1, v4])) (.ref p5) := told_tup upd_same (by show 3 ≤ 1000; decide) (fun x hx => by
          simp only [List.mem_cons, List.mem_nil_iff, or_false] at hx
          rcases hx with e | e | e
          · rw [e]; show PyData.strOk _ = true; decide +kernel
          · rw [e]; rfl
          · rw [e]; exact f4)
        refine ⟨_, rfl, _, rfl, r, ys3, _, _, rfl, rfl, hy5, by rw [hl3]; exact ixN_mod hpos, ?_⟩
        exact k _ (same_mut (s03.trans s5) h0r) ((pt3.same s5).set hrm hy5 t5)
      · exact k _ s03 pt3
    · exact k _ s01 pt1
end
end TL


namespace TL
open PySem PySem.Spec PyProof.Rows PySem.SeqAt L2 L3
def firstBadL (H : Hp) : Nat → List (List V) → Option (Nat × Nat)
  | _, [] => none
  | c, ys :: r => match badIn H ys.length 0 ys with
    | some p => some (c, p)
    | none => firstBadL H (c + 1) r
theorem firstBad_map {H : Hp} : ∀ {xs : List V} {c : Nat}, firstBad H c xs = firstBadL H c (xs.map (partV H))
  | [], _ => rfl
  | x :: r, c => by
    show (match badIn H (partV H x).length 0 (partV H x) with | some p => some (c, p) | none => firstBad H (c + 1) r) = (match badIn H (partV H x).length 0 (partV H x) with | some p => some (c, p) | none => firstBadL H (c + 1) (r.map (partV H)))
    rw [firstBad_map]
theorem firstBadL_app {H : Hp} : ∀ {l r : List (List V)} {c : Nat}, firstBadL H c l = none → firstBadL H c (l ++ r) = firstBadL H (c + l.length) r
  | [], r, c, _ => rfl
  | x :: l, r, c, h => by
    have h' : (match badIn H x.length 0 x with | some p => some (c, p) | none => firstBadL H (c + 1) l) = none := h
    show (match badIn H x.length 0 x with | some p => some (c, p) | none => firstBadL H (c + 1) (l ++ r)) = _
    cases e : badIn H x.length 0 x with
    | some p => rw [e] at h'; cases h'
    | none =>
      rw [e] at h'
      show firstBadL H (c + 1) (l ++ r) = _
      rw [firstBadL_app h', List.length_cons]
      congr 1
      omega
theorem firstBadL_succ {H : Hp} {l : List (List V)} {i : Nat} {x : List V} (hx : l[i]? = some x) (h : firstBadL H 0 (l.take i) = none) (f : badIn H x.length 0 x = none) : firstBadL H 0 (l.take (i + 1)) = none := by
  rw [List.take_add_one, hx, firstBadL_app h]
  show (match badIn H x.length 0 x with | some p => some (_, p) | none => none) = none
  rw [f]
theorem firstBadL_hit {H : Hp} {l : List (List V)} {i p : Nat} {x : List V} (hx : l[i]? = some x) (h : firstBadL H 0 (l.take i) = none) (f : badIn H x.length 0 x = some p) : firstBadL H 0 l = some (i, p) := by
  have hi : i < l.length := (List.getElem?_eq_some_iff.mp hx).1
  rw [take_cons hx, firstBadL_app h, List.length_take, Nat.min_eq_left (Nat.le_of_lt hi), Nat.zero_add]
  show (match badIn H x.length 0 x with | some p => some (i, p) | none => _) = some (i, p)
  rw [f]
/-- no place from 120 on is without fault -/
theorem badIn_len {H : Hp} {n : Int} : ∀ {l : List V} {p : Nat}, badIn H n p l = none → p ≤ 120 → p + l.length ≤ 120
  | [], p, _, hp => hp
  | v :: r, p, h, hp => by
    have h' : (if fitsM H v p n = true then badIn H n (p + 1) r else some p) = none := h
    by_cases f : fitsM H v p n = true
    · rw [if_pos f] at h'
      have h120 : (p : Int) < 120 := by
        unfold fitsM at f
        rw [Bool.and_eq_true, Bool.and_eq_true] at f
        exact of_decide_eq_true f.2.2
      have := badIn_len h' (by omega)
      rw [List.length_cons]
      omega
    · rw [if_neg f] at h'; cases h'
def dueL : Option (Nat × Nat) → List V
  | none => []
  | some (c, p) => [.int c, .int p]
/-- the lists and what they hold -/
def ListsAt (H : Hp) (l : Addr) (yss : List (List V)) : Prop := ∃ vs, H l = some (.lst vs) ∧ vs.length ≤ 1000 ∧ Paired (fun v ys => ∃ r, v = V.ref r ∧ H r = some (.lst ys) ∧ ys.length ≤ 1000 ∧ ∀ y ∈ ys, Told H y) vs yss
theorem paired_get' {α β : Type} {F : α → β → Prop} {l : List α} {r : List β} (h : Paired F l r) : ∀ {i : Nat} {x : α}, l[i]? = some x → ∃ y, r[i]? = some y ∧ F x y := by
  induction h with
  | nil => intro i x e; cases e
  | cons g t ih =>
    intro i x e
    cases i with
    | zero => cases e; exact ⟨_, rfl, g⟩
    | succ i => exact ih (by simpa using e)
section
variable {P : Program} {w : World} {K : PySem.W.Frag} {mg : Str → Option Value} {base : Heap}
def spDue : Sp := fun vs H Q _ => ∃ l yss, vs = [.ref l] ∧ ListsAt H l yss ∧ ∀ q H', Same H H' → H' q = some (.lst (dueL (firstBadL H 0 yss))) → Q (.ref q) H'
theorem scDue : FnScope ["_law_parts_here", "_law_clerk", "_law_part", "_law_place", "_law_told"] ["_law_parts_here"] (defScope sDue) := ⟨rfl, rfl, rfl, by decide +kernel, rfl, by decide +kernel, by decide +kernel⟩
theorem ok_Due {f fN : Addr} {fd fdN : FuncData} (F : Fun K "_law_due" "_law_due" sDue f fd) (hln : mg "len" = none) (hrg : mg "range" = none)
    (GN : FnOk P w K mg base CX0 2 fN fdN ["_law_told"] spIsNone) (kN : PySem.W.keepIn K (.ref fN) = true) (bN : Binds K fdN ["_law_told"] []) (mN : mg "_law_is_none" = some (.ref fN)) :
    FnOk P w K mg base CX0 3 f fd ["_law_parts_here"] spDue := by
  refine F.ok scDue (fun vs H Q E h => ?_) (fun cdv A outer s H vs Q E hr h => ?_)
  · obtain ⟨l, yss, rfl, _⟩ := h
    rfl
  · obtain ⟨l, yss, rfl, ⟨vs, hl, hvl, hp⟩, k⟩ := h
    refine ⟨_, pss_cons (ps_for PassesOwn.never rfl (pi_range1 rfl hrg (pa_cons (pe_callB call_len_seq rfl hln PySem.boot_len (pa_cons (pv 0) pa_nil)) pa_nil)) (pg_name (i := 1) scDue.nd rfl (Or.inl rfl))
        (pss_cons (ps_set (i := 2) scDue.nd rfl (Or.inl rfl) (pe_ix ix_list (pv 0) (pv 1) (fun _ _ => rfl)))
        (pss_one (ps_for PassesOwn.never rfl (pi_range1 rfl hrg (pa_cons (pe_callB call_len_seq rfl hln PySem.boot_len (pa_cons (pv 2) pa_nil)) pa_nil)) (pg_name (i := 3) scDue.nd rfl (Or.inl rfl))
          (pss_cons (ps_set (i := 4) scDue.nd rfl (Or.inl rfl) (pe_ix ix_list (pv 2) (pv 3) (fun _ _ => rfl)))
          (pss_one (ps_if (PW.pt (pw_or (pt_cmpR op_eq (pv 3) pe_int (nomark _)) (pw_or (pt_val (pe_call GN hr rfl mN kN bN .nil pass0 (pa_cons (pv 4) pa_nil)))
            (pw_or1 (PW.pt (pw_and (pt_cmpR op_eq (pe_ix ix_tup (pv 4) pe_int (fun _ _ => rfl)) pe_str (nomark _)) (pw_and1 (pt_cmpR op_gt (pe_ix ix_tup (pv 4) pe_int (fun _ _ => rfl)) (pe_callB call_len_seq rfl hln PySem.boot_len (pa_cons (pv 2) pa_nil)) (nomark _)))))))))
            (pss_one (ps_ret (pe_lst (pa_cons (pv 1) (pa_cons (pv 3) pa_nil))))) pss_nil)))))))
      (pss_one (ps_ret (pe_lst pa_nil))), ?_⟩
    have hyl : vs.length = yss.length := Paired.length hp
    refine ⟨_, rfl, l, vs, rfl, .inl (SqL.of hl), _, rfl, by omega, by omega, for_range (n := vs.length) (fun i σ H' => i ≤ vs.length ∧ ∃ c q p d, σ = [some (.ref l), c, q, p, d] ∧ Same H H' ∧ firstBadL H 0 (yss.take i) = none) ⟨Nat.zero_le _, none, none, none, none, rfl, Same.refl H, rfl⟩ ?_ ?_⟩
    · rintro i σ H1 hi ⟨_, c, q, p, d, rfl, s1, hb⟩
      have hvi : vs[i]? = some vs[i] := List.getElem?_eq_getElem hi
      obtain ⟨ys, hyi, r, er, hr1, hrl, hrt⟩ := paired_get' hp hvi
      have ati : atI vs (0 + (i : Int)) = some (.ref r) := by
        have e : (0 : Int) + (i : Int) = ((i : Nat) : Int) := by omega
        rw [e]
        exact atI_nat (by rw [hvi, er])
      refine ⟨_, rfl, _, rfl, l, vs, _, .ref r, rfl, rfl, SqL.of (s1 _ _ hl), ati, ?_⟩
      refine ⟨_, rfl, r, ys, rfl, .inl (SqL.of (s1 _ _ hr1)), _, rfl, by omega, by omega, for_range (n := ys.length) (fun j σ H' => ∃ p d, σ = [some (.ref l), some (.int (0 + (i : Int))), some (.ref r), p, d] ∧ Same H H' ∧ badIn H ys.length 0 (ys.take j) = none) ⟨p, d, rfl, s1, rfl⟩ ?_ ?_⟩
      · rintro j σ H2 hj ⟨p', d', rfl, s2, hbj⟩
        have hyj : ys[j]? = some ys[j] := List.getElem?_eq_getElem hj
        have ht : Told H ys[j] := hrt _ (List.getElem_mem hj)
        have hj120 : j ≤ 120 := by
          have := badIn_len hbj (by decide)
          rw [List.length_take, Nat.min_eq_left (Nat.le_of_lt hj)] at this
          omega
        have atj : atI ys (0 + (j : Int)) = some ys[j] := by
          have e : (0 : Int) + (j : Int) = ((j : Nat) : Int) := by omega
          rw [e]
          exact atI_nat hyj
        generalize ys[j] = v at hyj ht atj
        refine ⟨_, rfl, _, rfl, r, ys, _, v, rfl, rfl, SqL.of (s2 _ _ hr1), atj, ?_⟩
        have bad : fitsM H v j ys.length = false → ∀ H', Same H H' → ∀ q, H' q = none → Q (.ref q) (upd H' q (.lst [.int (0 + (i : Int)), .int (0 + (j : Int))])) := fun hf H' s' q hq => by
          refine k q _ (same_new s' hq) ?_
          rw [upd_same, firstBadL_hit hyi hb (badIn_hit hyj hbj hf), Int.zero_add, Int.zero_add]
          rfl
        have good : fitsM H v j ys.length = true → ∀ p d H', Same H H' → ∃ p' d', ([some (.ref l), some (.int (0 + (i : Int))), some (.ref r), p, d] : L2.St) = [some (.ref l), some (.int (0 + (i : Int))), some (.ref r), p', d'] ∧ Same H H' ∧ badIn H ys.length 0 (ys.take (j + 1)) = none := fun hf p d H' s' =>
          ⟨p, d, rfl, s', badIn_succ hyj hbj hf⟩
        refine ⟨_, rfl, rfl, _, rfl, iteD (fun e => ?_) (fun ne => ?_)⟩
        · have ej : (j : Int) = 120 := by injection e with e; omega
          have hf : fitsM H v j ys.length = false := by
            unfold fitsM
            rw [show decide ((j : Int) < 120) = false from decide_eq_false (by omega), Bool.and_false, Bool.and_false]
          exact iteT ⟨_, rfl, _, rfl, by show 2 ≤ sizeLine; decide, fun q hq => bad hf H2 s2 q hq⟩
        have hlt : (j : Int) < 120 := by
          have : ¬ (j : Int) = 120 := fun z => ne (by rw [z]; rfl)
          omega
        refine ⟨_, rfl, v, rfl, ht.same s2, fun H3 s3 => ⟨_, rfl, ?_⟩⟩
        have s23 := s2.trans s3
        have hst2 : isStep H2 v = isStep H v := by
          obtain ⟨⟨Tv, hTv⟩, _⟩ := ht
          unfold isStep
          rw [view_same s2 hTv]
        rw [hst2]
        cases hst : isStep H v with
        | false =>
          have hf : fitsM H v j ys.length = false := by unfold fitsM; rw [hst]; rfl
          exact iteT (iteT ⟨_, rfl, _, rfl, by show 2 ≤ sizeLine; decide, fun q hq => bad hf H3 s23 q hq⟩)
        | true =>
        obtain ⟨a, x, ps, ev, ha, hk⟩ := step_view hst
        subst ev
        have ha3 := s23 _ _ ha
        refine iteF ⟨_, rfl, a, _, 0, .str x, rfl, rfl, SqT.of ha3, atI_nat (j := 0) rfl, rfl, _, rfl, iteD (fun hx => ?_) (fun hx => ?_)⟩
        · cases str_inj hx
          obtain ⟨v1, v2, hps⟩ := two_of hk (bs := [4, 121]) (by unfold boundsM; rw [if_neg (by decide +kernel), if_neg (by decide +kernel), if_neg (by decide +kernel), if_neg (by decide +kernel), if_neg (by decide +kernel), if_neg (by decide +kernel), if_pos rfl])
          subst hps
          obtain ⟨q, rfl⟩ := skip_int hk
          have ef : skipFar H (.ref a) ys.length = decide ((ys.length : Int) < q) := by unfold skipFar; rw [viewT_of ha]; rfl
          refine ⟨_, rfl, a, _, 2, .int q, rfl, rfl, SqT.of ha3, atI_nat (j := 2) rfl, _, rfl, r, ys, rfl, .inl (SqL.of (s23 _ _ hr1)), _, _, rfl, rfl, _, rfl, iteD (fun hq => ?_) (fun hq => ?_)⟩
          · have hf : fitsM H (.ref a) j ys.length = false := by unfold fitsM; rw [ef, decide_eq_true hq, hst]; rfl
            exact ⟨_, rfl, _, rfl, by show 2 ≤ sizeLine; decide, fun q' hq' => bad hf H3 s23 q' hq'⟩
          · have hf : fitsM H (.ref a) j ys.length = true := by unfold fitsM; rw [ef, decide_eq_false hq, hst, decide_eq_true hlt]; rfl
            exact good hf _ _ H3 s23
        · have ef : skipFar H (.ref a) ys.length = false := by
            unfold skipFar
            rw [viewT_of ha]
            split
            · rename_i xx y q heq
              cases heq
              rw [decide_eq_false (fun z => hx (by rw [z]))]; rfl
            · rfl
          have hf : fitsM H (.ref a) j ys.length = true := by unfold fitsM; rw [ef, hst, decide_eq_true hlt]; rfl
          exact iteF (good hf _ _ H3 s23)
      · rintro σ H2 ⟨p', d', rfl, s2, hbj⟩
        rw [List.take_of_length_le (Nat.le_refl _)] at hbj
        exact ⟨hi, _, _, _, _, rfl, s2, firstBadL_succ hyi hb hbj⟩
    · rintro σ H1 ⟨_, c, q, p, d, rfl, s1, hb⟩
      refine ⟨by decide, fun q hq => k q _ (same_new s1 hq) ?_⟩
      rw [hyl, List.take_of_length_le (Nat.le_refl _)] at hb
      rw [upd_same, hb]
      rfl
end
end TL


namespace TL
open PySem PySem.Spec PyProof.Rows PySem.SeqAt L2 L3
abbrev PartOk (H : Hp) (x : V) : Prop := (∃ T, tyName H x = some T) ∧ ∀ ys, viewT H x = some ys → ys.length ≤ 1000 ∧ ∀ y ∈ ys, Told H y
theorem PartOk.same {H H' : Hp} {x : V} (s : Same H H') (h : PartOk H x) : PartOk H' x := by
  obtain ⟨⟨T, hT⟩, hy⟩ := h
  refine ⟨⟨T, tyName_same s hT⟩, fun ys e => ?_⟩
  rw [view_same s hT] at e
  obtain ⟨h1, h2⟩ := hy ys e
  exact ⟨h1, fun y hy => (h2 y hy).same s⟩
theorem Prog2.same {H H' : Hp} {v : V} (s : Same H H') (h : Prog2 H v) : Prog2 H' v := by
  obtain ⟨⟨T, hT⟩, hx⟩ := h
  refine ⟨⟨T, tyName_same s hT⟩, fun xs e => ?_⟩
  rw [view_same s hT] at e
  obtain ⟨h1, h2⟩ := hx xs e
  exact ⟨h1, fun x hx => PartOk.same s (h2 x hx)⟩
theorem all_congr {α : Type} {f g : α → Bool} : ∀ {l : List α}, (∀ x ∈ l, f x = g x) → l.all f = l.all g
  | [], _ => rfl
  | x :: r, h => by rw [List.all_cons, List.all_cons, h x List.mem_cons_self, all_congr fun y hy => h y (List.mem_cons_of_mem _ hy)]
theorem hasM_same {H H' : Hp} {v : V} (s : Same H H') (h : Prog2 H v) : hasM H' v = hasM H v := by
  obtain ⟨⟨T, hT⟩, hx⟩ := h
  unfold hasM
  rw [view_same s hT]
  cases e : viewT H v with
  | none => rfl
  | some xs =>
    show (_ && xs.all fun x => (viewT H' x).isSome) = (_ && xs.all fun x => (viewT H x).isSome)
    rw [all_congr fun x hx1 => ?_]
    obtain ⟨⟨U, hU⟩, _⟩ := (hx xs e).2 x hx1
    rw [view_same s hU]
theorem badIn_same {H H' : Hp} {n : Int} (s : Same H H') : ∀ {l : List V} {p : Nat}, (∀ y ∈ l, Told H y) → badIn H' n p l = badIn H n p l
  | [], _, _ => rfl
  | v :: r, p, h => by
    show (if fitsM H' v p n = true then badIn H' n (p + 1) r else some p) = (if fitsM H v p n = true then badIn H n (p + 1) r else some p)
    rw [fits_same s (h v List.mem_cons_self), badIn_same s fun y hy => h y (List.mem_cons_of_mem _ hy)]
theorem firstBad_same {H H' : Hp} (s : Same H H') : ∀ {xs : List V} {c : Nat}, (∀ x ∈ xs, PartOk H x) → firstBad H' c xs = firstBad H c xs
  | [], _, _ => rfl
  | x :: r, c, h => by
    obtain ⟨⟨T, hT⟩, hy⟩ := h x List.mem_cons_self
    have ep : partV H' x = partV H x := by unfold partV; rw [view_same s hT]
    have et : ∀ y ∈ partV H x, Told H y := fun y hyy => by
      unfold partV at hyy
      cases e : viewT H x with
      | none => rw [e] at hyy; cases hyy
      | some ys => rw [e] at hyy; exact (hy ys e).2 y hyy
    show (match badIn H' (partV H' x).length 0 (partV H' x) with | some p => some (c, p) | none => firstBad H' (c + 1) r) = (match badIn H (partV H x).length 0 (partV H x) with | some p => some (c, p) | none => firstBad H (c + 1) r)
    rw [ep, badIn_same s et, firstBad_same s fun y hy => h y (List.mem_cons_of_mem _ hy)]
theorem boot_VE : bootBuiltins "ValueError" = some (.type "ValueError") := by decide +kernel
theorem fldX_K {X : Cx} {e : Expr} {f : Str} {pos : Pos} {ta : TE} (K : PySem.W.Frag) (he : PE X e ta) (hb : attributeBase e f X.env (eval e X.env) = eval e X.env) (h : X.K = K := by rfl) : PE X (.Attribute e f pos) (tFldX K ta f) := by subst h; exact pe_fldX he hb
/-- what the law's except clause looks at in a class of errors -/
structure XW (K : PySem.W.Frag) (x cE cP cC cS cT cK : Addr) (isP isC : Bool) : Prop where
  k1 : XK1 K x
  ce : PySem.W.kitCls K (.ref x) (.ref cE) = some true
  p : PySem.W.kitOne K (.ref x) (.ref cP) = some isP
  c : PySem.W.kitOne K (.ref x) (.ref cC) = some isC
  s : PySem.W.kitOne K (.ref x) (.ref cS) = some false
  t : PySem.W.kitOne K (.ref x) (.ref cT) = some false
  k : PySem.W.kitOne K (.ref x) (.ref cK) = some false
  v : PySem.W.kitOne K (.ref x) (.type "ValueError") = some true
section
variable {P : Program} {w : World} {K : PySem.W.Frag} {mg : Str → Option Value} {base : Heap}
def spWord : Sp := fun vs H Q _ => ∃ v, vs = [v] ∧ Prog2 H v ∧ (hasM H v = false → ∀ q H', Same H H' → H' q = some (.lst [.str "clerks"]) → Q (.ref q) H') ∧
  (hasM H v = true → ∀ xs, viewT H v = some xs → ∀ q H', Same H H' → H' q = some (.lst (dueL (firstBad H 0 xs))) → Q (.ref q) H')
theorem scWord : FnScope ["_law_thing", "_law_word_here", "e"] ["_law_thing"] (defScope sWord) := ⟨rfl, rfl, rfl, by decide +kernel, rfl, by decide +kernel, by decide +kernel⟩
theorem ok_Word {f fL cE cP cC cS cT cK : Addr} {fd fdL : FuncData} (F : Fun K "_law_word" "_law_word" sWord f fd) (hI : mg "isinstance" = none) (hVE : mg "ValueError" = none)
    (GL : FnOk P w K mg base (CXE P w) 6 fL fdL ["program"] (spLook cC cP)) (kL : PySem.W.keepIn K (.ref fL) = true) (bL : Binds K fdL ["program"] []) (mL : mg "look_over" = some (.ref fL))
    (mE : mg "TrayError" = some (.ref cE)) (bE : PySem.W.kitCls K (.ref cE) (.type "BaseException") = some true) (mP : mg "NoProgram" = some (.ref cP)) (mC : mg "NoClerks" = some (.ref cC)) (mS : mg "NoStep" = some (.ref cS)) (mT : mg "NoText" = some (.ref cT)) (mK : mg "NoKind" = some (.ref cK))
    (xC : XW K cC cE cP cC cS cT cK false true) (xP : XW K cP cE cP cC cS cT cK true false) (xf : XF K cP) (n1 : NoAttr K cP "clerk") (n2 : NoAttr K cP "place") :
    FnOk P w K mg base CX0 7 f fd ["_law_thing"] spWord := by
  refine F.ok scWord (fun vs H Q E h => ?_) (fun cdv A outer s H vs Q E hr h => ?_)
  · obtain ⟨v, rfl, _⟩ := h
    rfl
  · obtain ⟨v, rfl, hP, kC, kP⟩ := h
    refine ⟨_, pss_cons (ps_set (i := 1) scWord.nd rfl (Or.inl rfl) (pe_lst pa_nil))
      (pss_cons (ps_tryAs (i := 2) rfl rfl rfl scWord.nd rfl rfl rfl mE bE
        (fun W pn E hL hp => pss_one (ps_if (pt_cmpR op_notN (pe_callX GL hr hL rfl mL kL bL .nil (pa_cons (pv 0) pa_nil)) pe_non (nomark _)) (pss_one (ps_set (i := 1) scWord.nd rfl (Or.inl rfl) (pe_lst (pa_cons pe_str pa_nil)))) pss_nil))
        (fun ea pn => pss_cons (ps_if (pt_val (pe_callB (isiE_K K) rfl hI boot_isinstance (pa_cons (pv 2) (pa_cons (pe_glob (v := .ref cP) rfl mP rfl) pa_nil)))) (pss_one (ps_set (i := 1) scWord.nd rfl (Or.inl rfl) (pe_lst (pa_cons (fldX_K K (pv 2) rfl) (pa_cons (fldX_K K (pv 2) rfl) pa_nil))))) pss_nil)
          (pss_cons (ps_if (pt_val (pe_callB (isiE_K K) rfl hI boot_isinstance (pa_cons (pv 2) (pa_cons (pe_glob (v := .ref cC) rfl mC rfl) pa_nil)))) (pss_one (ps_set (i := 1) scWord.nd rfl (Or.inl rfl) (pe_op op_cat (pv 1) (pe_lst (pa_cons pe_str pa_nil))))) pss_nil)
          (pss_one (ps_if (PW.pt (pw_or (pt_val (pe_callB (isiE_K K) rfl hI boot_isinstance (pa_cons (pv 2) (pa_cons (pe_glob (v := .ref cS) rfl mS rfl) pa_nil))))
            (pw_or (pt_val (pe_callB (isiE_K K) rfl hI boot_isinstance (pa_cons (pv 2) (pa_cons (pe_glob (v := .ref cT) rfl mT rfl) pa_nil))))
            (pw_or (pt_val (pe_callB (isiE_K K) rfl hI boot_isinstance (pa_cons (pv 2) (pa_cons (pe_glob (v := .ref cK) rfl mK rfl) pa_nil))))
            (pw_or1 (pt_not (pt_val (pe_callB (isiE_K K) rfl hI boot_isinstance (pa_cons (pv 2) (pa_cons (pe_bltn (v := .ty "ValueError") rfl hVE boot_VE rfl) pa_nil)))))))))) (pss_one (ps_set (i := 1) scWord.nd rfl (Or.inl rfl) (pe_op op_cat (pv 1) (pe_lst (pa_cons pe_str pa_nil))))) pss_nil)))))
      (pss_one (ps_ret (pv 1)))), ?_⟩
    refine ⟨by decide, fun q0 n0 => ?_⟩
    have s0 : Same H (upd H q0 (.lst [])) := same_new (Same.refl H) n0
    have h0 : upd H q0 (.lst []) q0 = some (.lst []) := upd_same
    have hM0 := hasM_same s0 hP
    have hP0 := hP.same s0
    refine ⟨_, rfl, v, rfl, hP0, fun hf H1 s1 => ⟨xC.ce, fun ea hea => ?_⟩, fun ht xs0 hv0 => ?_⟩
    · rw [hM0] at hf
      have s01 := s0.trans s1
      have he : upd H1 ea (exo ea (.ref cC) none) ea = some (exo ea (.ref cC) none) := upd_same
      have s2 : Same H1 (upd H1 ea (exo ea (.ref cC) none)) := same_new (Same.refl _) hea
      have hq := s2 _ _ (s1 _ _ h0)
      generalize upd H1 ea (exo ea (.ref cC) none) = H2 at he s2 hq
      have nd : ∀ d, (none : Option Addr) = some d → ∃ fs, H2 d = some (xdo d fs) := fun d z => by cases z
      refine ⟨_, rfl, ea, cC, none, .ref cP, _, _, rfl, he, nd, xC.k1, rfl, xC.p, _, rfl, iteF ?_⟩
      refine ⟨_, rfl, ea, cC, none, .ref cC, _, _, rfl, he, nd, xC.k1, rfl, xC.c, _, rfl, iteT ?_⟩
      refine ⟨_, rfl, by show 1 ≤ sizeLine; decide, fun l1 m1 => ?_⟩
      have s3 : Same H2 (upd H2 l1 (.lst [.str "clerks"])) := same_new (Same.refl _) m1
      refine ⟨q0, l1, [], [.str "clerks"], rfl, rfl, s3 _ _ hq, upd_same, by show 1 ≤ sizeLine; decide, fun l2 m2 => ?_⟩
      have s4 := s3.trans (same_new (o := .lst ([] ++ [.str "clerks"])) (Same.refl _) m2)
      have he4 := s4 _ _ he
      have nd4 : ∀ (H : Hp) (d : Addr), (none : Option Addr) = some d → ∃ fs, H d = some (xdo d fs) := fun H d z => by cases z
      refine ⟨_, rfl, ea, cC, none, .ref cS, _, _, rfl, he4, nd4 _, xC.k1, rfl, xC.s, _, rfl, iteF ?_⟩
      refine ⟨_, rfl, ea, cC, none, .ref cT, _, _, rfl, he4, nd4 _, xC.k1, rfl, xC.t, _, rfl, iteF ?_⟩
      refine ⟨_, rfl, ea, cC, none, .ref cK, _, _, rfl, he4, nd4 _, xC.k1, rfl, xC.k, _, rfl, iteF ?_⟩
      refine ⟨_, rfl, ea, cC, none, .ty "ValueError", _, _, rfl, he4, nd4 _, xC.k1, rfl, xC.v, _, rfl, iteF ?_⟩
      exact ⟨_, rfl, kC hf l2 _ (s01.trans (s2.trans s4)) upd_same⟩
    · rw [hM0] at ht
      obtain ⟨⟨T, hT⟩, hx⟩ := hP
      have hv : viewT H v = some xs0 := by rw [← view_same s0 hT]; exact hv0
      have eF := firstBad_same s0 (c := 0) (hx xs0 hv).2
      have kk := kP ht xs0 hv
      rw [eF]
      refine ⟨fun hn H1 s1 => ?_, fun c p hc d H1 s1 hd => ⟨xP.ce, fun ea hea => ?_⟩⟩
      · refine ⟨rfl, _, rfl, iteF ?_⟩
        refine ⟨_, rfl, kk q0 H1 (s0.trans s1) ?_⟩
        rw [hn]
        exact s1 _ _ h0
      · have s01 := s0.trans s1
        have he : upd H1 ea (exo ea (.ref cP) (some d)) ea = some (exo ea (.ref cP) (some d)) := upd_same
        have s2 : Same H1 (upd H1 ea (exo ea (.ref cP) (some d))) := same_new (Same.refl _) hea
        have hd2 := s2 _ _ hd
        generalize upd H1 ea (exo ea (.ref cP) (some d)) = H2 at he s2 hd2
        have nd : ∀ H3, Same H2 H3 → ∀ d', (some d : Option Addr) = some d' → ∃ fs, H3 d' = some (xdo d' fs) := fun H3 s3 d' z => by cases z; exact ⟨_, s3 _ _ hd2⟩
        have r2 := Same.refl H2
        refine ⟨_, rfl, ea, cP, some d, .ref cP, _, _, rfl, he, nd _ r2, xP.k1, rfl, xP.p, _, rfl, iteT ?_⟩
        refine ⟨_, rfl, ea, cP, d, _, .int c, rfl, he, hd2, xf, n1, rfl, _, rfl, ea, cP, d, _, .int p, rfl, he, hd2, xf, n2, rfl, by show 2 ≤ sizeLine; decide, fun l1 m1 => ?_⟩
        have s3 : Same H2 (upd H2 l1 (.lst [.int c, .int p])) := same_new (Same.refl _) m1
        have he3 := s3 _ _ he
        refine ⟨_, rfl, ea, cP, some d, .ref cC, _, _, rfl, he3, nd _ s3, xP.k1, rfl, xP.c, _, rfl, iteF ?_⟩
        refine ⟨_, rfl, ea, cP, some d, .ref cS, _, _, rfl, he3, nd _ s3, xP.k1, rfl, xP.s, _, rfl, iteF ?_⟩
        refine ⟨_, rfl, ea, cP, some d, .ref cT, _, _, rfl, he3, nd _ s3, xP.k1, rfl, xP.t, _, rfl, iteF ?_⟩
        refine ⟨_, rfl, ea, cP, some d, .ref cK, _, _, rfl, he3, nd _ s3, xP.k1, rfl, xP.k, _, rfl, iteF ?_⟩
        refine ⟨_, rfl, ea, cP, some d, .ty "ValueError", _, _, rfl, he3, nd _ s3, xP.k1, rfl, xP.v, _, rfl, iteF ?_⟩
        refine ⟨_, rfl, kk l1 _ (s01.trans (s2.trans s3)) ?_⟩
        rw [hc]
        exact upd_same
end
end TL


namespace TL
open PySem PySem.Spec PyProof.Rows PySem.SeqAt L2 L3
/-! ### things that are no programs -/
def BadP (H : Hp) (v : V) : Prop := Prog2 H v ∧ hasM H v = false
theorem BadP.same {H H' : Hp} {v : V} (s : Same H H') (h : BadP H v) : BadP H' v := ⟨h.1.same s, by rw [hasM_same s h.1]; exact h.2⟩
structure PgAt (H : Hp) (pg : Addr) (ts : List V) : Prop where
  at_ : H pg = some (.tup ts)
  lo : 1 ≤ ts.length
  hi : ts.length ≤ 4
  each : ∀ t ∈ ts, ∃ p ys, t = V.ref p ∧ H p = some (.tup ys) ∧ ys.length ≤ 1000 ∧ ∀ y ∈ ys, Told H y
theorem PgAt.same {H H' : Hp} {pg : Addr} {ts : List V} (p : PgAt H pg ts) (s : Same H H') : PgAt H' pg ts :=
  ⟨s _ _ p.at_, p.lo, p.hi, fun t ht => by
    obtain ⟨q, ys, e, h1, h2, h3⟩ := p.each t ht
    exact ⟨q, ys, e, s _ _ h1, h2, fun y hy => (h3 y hy).same s⟩⟩
theorem PgAt.part {H : Hp} {pg : Addr} {ts : List V} (p : PgAt H pg ts) : ∀ t ∈ ts, PartOk H t := fun t ht => by
  obtain ⟨q, ys, e, h1, h2, h3⟩ := p.each t ht
  subst e
  exact ⟨⟨_, tyName_tup h1⟩, fun zs z => by rw [viewT_of h1] at z; cases z; exact ⟨h2, h3⟩⟩
theorem PgAt.prog {H : Hp} {pg : Addr} {ts : List V} (p : PgAt H pg ts) : Prog2 H (.ref pg) := ⟨⟨_, tyName_tup p.at_⟩, fun xs e => by
  rw [viewT_of p.at_] at e
  cases e
  exact ⟨by have := p.hi; omega, p.part⟩⟩
theorem PgAt.has {H : Hp} {pg : Addr} {ts : List V} (p : PgAt H pg ts) : hasM H (.ref pg) = true := by
  unfold hasM
  rw [viewT_of p.at_]
  show ((decide (1 ≤ ts.length) && decide (ts.length ≤ 4)) && ts.all fun x => (viewT H x).isSome) = true
  rw [decide_eq_true p.lo, decide_eq_true p.hi, List.all_eq_true.mpr fun t ht => ?_]
  · rfl
  · obtain ⟨q, ys, e, h1, _⟩ := p.each t ht
    subst e
    rw [viewT_of h1]
    rfl
theorem bad_noview {H : Hp} {v : V} {T : String} (h : tyName H v = some T) (n : viewT H v = none) : BadP H v :=
  ⟨⟨⟨T, h⟩, fun xs e => by rw [n] at e; cases e⟩, by unfold hasM; rw [n]⟩
theorem bad_flat {H : Hp} {v : V} (h : flatTy v = true) : BadP H v := by
  obtain ⟨⟨T, hT⟩, n⟩ := flat_ty (H := H) h
  exact bad_noview hT n
theorem bad_lst {H : Hp} {p : Addr} {xs : List V} (e : H p = some (.lst xs)) : BadP H (.ref p) :=
  bad_noview (T := "list") (by unfold tyName; simp only [e]) (by unfold viewT; simp only [e])
theorem bad_tup {H : Hp} {p : Addr} {xs : List V} (e : H p = some (.tup xs)) (hl : xs.length ≤ 1000) (hx : ∀ x ∈ xs, PartOk H x) (hb : xs.length = 0 ∨ 4 < xs.length ∨ ∃ x ∈ xs, viewT H x = none) : BadP H (.ref p) := by
  refine ⟨⟨⟨_, tyName_tup e⟩, fun ys q => by rw [viewT_of e] at q; cases q; exact ⟨hl, hx⟩⟩, ?_⟩
  unfold hasM
  rw [viewT_of e]
  show ((decide (1 ≤ xs.length) && decide (xs.length ≤ 4)) && xs.all fun x => (viewT H x).isSome) = false
  rcases hb with h | h | ⟨x, hx1, h⟩
  · rw [decide_eq_false (by omega), Bool.false_and, Bool.false_and]
  · rw [decide_eq_false (show ¬ xs.length ≤ 4 by omega), Bool.and_false, Bool.false_and]
  · rw [show (xs.all fun x => (viewT H x).isSome) = false from List.all_eq_false.mpr ⟨x, hx1, by rw [h]; exact Bool.false_ne_true⟩, Bool.and_false]
theorem part_noview {H : Hp} {x : V} {T : String} (h : tyName H x = some T) (n : viewT H x = none) : PartOk H x := ⟨⟨T, h⟩, fun ys e => by rw [n] at e; cases e⟩
theorem lst_ty {H : Hp} {p : Addr} {xs : List V} (e : H p = some (.lst xs)) : tyName H (.ref p) = some "list" ∧ viewT H (.ref p) = none := ⟨by unfold tyName; simp only [e], by unfold viewT; simp only [e]⟩
/-! ### readings: whichever bad thing -/
def preB (σ : L2.St) (H : Hp) : Prop := ∃ pg ts, σ[3]? = some (some (.ref pg)) ∧ PgAt H pg ts
def tBd : TE := fun σ H Q => preB σ H ∧ ∀ v H', Same H H' → BadP H' v → Q v H'
def tBdA (n : Nat) : TA := fun σ H Q => preB σ H ∧ ∀ (vs : List V) H', vs.length = n → Same H H' → (∀ v ∈ vs, BadP H' v) → Q vs H'
def tBdL (n : Nat) : TE := fun σ H Q => preB σ H ∧ ∀ l (vs : List V) H', vs.length = n → Same H H' → H' l = some (.lst vs) → (∀ v ∈ vs, BadP H' v) → Q (.ref l) H'
theorem preB.same {σ : L2.St} {H H' : Hp} (p : preB σ H) (s : Same H H') : preB σ H' := let ⟨pg, ts, h1, h2⟩ := p; ⟨pg, ts, h1, h2.same s⟩
section
variable {X : Cx} {e : Expr} {es : List Expr} {n m : Nat} {p : Pos}
theorem bda_nil : PA X [] (tBdA 0) := pa_nil.imp fun _ H _ h => h.2 [] H rfl (Same.refl H) (fun _ z => by cases z)
theorem bda_cons (he : PE X e tBd) (hn : notStar e = true) (hr : PA X es (tBdA n)) : PA X (e :: es) (tBdA (n + 1)) := (pa_cons he hr (se_any hn)).imp fun σ H Q h =>
  ⟨h.1, fun v H1 s1 hv => ⟨h.1.same s1, fun vs H2 hl s2 hvs => h.2 (v :: vs) H2 (by rw [List.length_cons, hl]) (s1.trans s2) fun x hx => by rcases List.mem_cons.mp hx with e | e; (rw [e]; exact hv.same s2); exact hvs x e⟩⟩
theorem bdl (h : PA X es (tBdA n)) (hn : n ≤ 1000) : PE X (.List es p) (tBdL n) := (pe_lst h).imp fun σ H Q q =>
  ⟨q.1, fun vs H1 hl s1 hvs => ⟨Nat.le_of_lt (small1000 (by omega)), fun r hr => q.2 r vs _ hl (same_new s1 hr) upd_same fun v hv => (hvs v hv).same (same_new (Same.refl _) hr)⟩⟩
theorem b1 : PE X (.List [] p) tBd := (pe_lst pa_nil).imp fun σ H Q q => ⟨by decide, fun r hr => q.2 _ _ (same_new (Same.refl H) hr) (bad_lst upd_same)⟩
theorem b2 : PE X (.Tuple [] m p) tBd := (pe_tup pa_nil).imp fun σ H Q q => ⟨by decide, fun r hr => q.2 _ _ (same_new (Same.refl H) hr) (bad_tup upd_same (by decide) (fun _ z => by cases z) (.inl rfl))⟩
theorem b5 : PE X (.Constant .none m p) tBd := pe_non.imp fun σ H Q q => q.2 _ H (Same.refl H) (bad_flat rfl)
theorem b6 {x : Str} (hx : PyData.strOk x = true) : PE X (.Constant (.str x) m p) tBd := pe_str.imp fun σ H Q q => q.2 _ H (Same.refl H) (bad_flat hx)
theorem b7 {k : Nat} {q : Pos} : PE X (.Tuple [.Constant .none m p] k q) tBd := (pe_tup (pa_cons pe_non pa_nil)).imp fun σ H Q q => ⟨by decide, fun r hr => q.2 _ _ (same_new (Same.refl H) hr)
  (bad_tup upd_same (by decide) (fun x hx => by rw [List.mem_singleton.mp hx]; exact part_noview (T := "NoneType") rfl rfl) (.inr (.inr ⟨.non, List.mem_singleton.mpr rfl, rfl⟩)))⟩
theorem first_of {H : Hp} {pg : Addr} {ts : List V} (h : PgAt H pg ts) : ∃ q ys r, ts = V.ref q :: r ∧ H q = some (.tup ys) := by
  have hlo := h.lo
  match ts, h with
  | [], h => simp at hlo
  | t :: r, h =>
    obtain ⟨q, ys, e, h1, _⟩ := h.each t List.mem_cons_self
    exact ⟨q, ys, r, by rw [e], h1⟩
theorem b9 {q r : Pos} (hv : PE X e (tVar 3)) : PE X (.List [.Subscript e (.Constant (.int 0) m q) r] p) tBd := (pe_lst (pa_cons (pe_ix ix_tup hv pe_int (fun _ _ => rfl)) pa_nil)).imp fun σ H Q z => by
  obtain ⟨⟨pg, ts, h3, hP⟩, z⟩ := z
  obtain ⟨q, ys, r, et, _⟩ := first_of hP
  exact ⟨_, h3, pg, ts, 0, .ref q, rfl, rfl, SqT.of hP.at_, by rw [et]; exact atI_nat (j := 0) rfl, by show 1 ≤ sizeLine; decide, fun l hl => z _ _ (same_new (Same.refl H) hl) (bad_lst upd_same)⟩
theorem b4 {q r u v : Pos} {k : Nat} (hv : PE X e (tVar 3)) (gl : Gl X "list") (ml : X.mg "list" = none) : PE X (.Tuple [.Call (.Name "list" u) [.Subscript e (.Constant (.int 0) m q) r] [] v] k p) tBd :=
  (pe_tup (pa_cons (pe_callTy call_list_of gl ml boot_list (pa_cons (pe_ix ix_tup hv pe_int (fun _ _ => rfl)) pa_nil)) pa_nil)).imp fun σ H Q z => by
    obtain ⟨⟨pg, ts, h3, hP⟩, z⟩ := z
    obtain ⟨q, ys, r, et, hq⟩ := first_of hP
    refine ⟨_, h3, pg, ts, 0, .ref q, rfl, rfl, SqT.of hP.at_, by rw [et]; exact atI_nat (j := 0) rfl, q, ys, rfl, .inr (SqT.of hq), fun l hl => ⟨by show 1 ≤ sizeLine; decide, fun t ht => ?_⟩⟩
    have hl2 : upd (upd H l (.lst ys)) t (.tup [.ref l]) l = some (.lst ys) := by rw [upd_ne (ne_of_none upd_same ht)]; exact upd_same
    refine z _ _ ((same_new (Same.refl H) hl).trans (same_new (Same.refl _) ht)) (bad_tup upd_same (by show 1 ≤ 1000; decide) (fun x hx => ?_) (.inr (.inr ⟨.ref l, List.mem_singleton.mpr rfl, (lst_ty hl2).2⟩)))
    rw [List.mem_singleton.mp hx]
    exact part_noview (lst_ty hl2).1 (lst_ty hl2).2
theorem b8 {q r u : Pos} {k n : Nat} (hv : PE X e (tVar 3)) : PE X (.BinOp e .Add (.Tuple [.List [.Constant (.str "clear") m q] r] k u) p) tBd :=
  (pe_op op_catT hv (pe_tup (pa_cons (pe_lst (pa_cons pe_str pa_nil)) pa_nil))).imp fun σ H Q z => by
    obtain ⟨⟨pg, ts, h3, hP⟩, z⟩ := z
    refine ⟨_, h3, by decide, fun l hl => ⟨by show 1 ≤ sizeLine; decide, fun t ht => ?_⟩⟩
    have s1 : Same H (upd (upd H l (.lst [.str "clear"])) t (.tup [.ref l])) := (same_new (Same.refl H) hl).trans (same_new (Same.refl _) ht)
    have hl2 : upd (upd H l (.lst [.str "clear"])) t (.tup [.ref l]) l = some (.lst [.str "clear"]) := by rw [upd_ne (ne_of_none upd_same ht)]; exact upd_same
    have hP1 := hP.same s1
    have ne : ts ≠ [] := fun e => by have := hP.lo; rw [e] at this; exact absurd this (by decide)
    refine ⟨pg, t, ts, [.ref l], rfl, rfl, SqT.of hP1.at_, SqT.of upd_same, ne, by have := hP.hi; exact Nat.le_of_lt (small1000 (by show ts.length + 1 ≤ 1000; omega)), (fun e => by cases e), fun _ c hc => ?_⟩
    have s2 := same_new (o := .tup (ts ++ [.ref l])) (Same.refl _) hc
    have hl3 := s2 _ _ hl2
    refine z _ _ (s1.trans s2) (bad_tup upd_same (by rw [List.length_append]; have := hP.hi; show ts.length + 1 ≤ 1000; omega) (fun x hx => ?_) (.inr (.inr ⟨.ref l, List.mem_append_right _ (List.mem_singleton.mpr rfl), (lst_ty hl3).2⟩)))
    rcases List.mem_append.mp hx with h | h
    · exact (hP1.same s2).part x h
    · rw [List.mem_singleton.mp h]
      exact part_noview (lst_ty hl3).1 (lst_ty hl3).2
theorem cut_first (t : V) (r : List V) : cutV (t :: r) none (some 1) = [t] := by
  unfold cutV
  simp [HT.sIx]
theorem b3 {q r u v : Pos} {k : Nat} (hv : PE X e (tVar 3)) : PE X (.BinOp (.Subscript e (.Slice none (some (.Constant (.int 1) m q)) none r) u) .Mult (.Constant (.int 5) k v) p) tBd :=
  (pe_op op_repT (pe_slice sl_tup2 hv po_none (po_some pe_int)) pe_int).imp fun σ H Q z => by
    obtain ⟨⟨pg, ts, h3, hP⟩, z⟩ := z
    obtain ⟨q, ys, r, et, hq⟩ := first_of hP
    have go : ∀ (xs : List V) (a : Addr) (H1 : Hp), Same H H1 → H1 a = some (.tup xs) → xs ≠ [] → xs.length ≤ 4 → (∀ x ∈ xs, x ∈ ts) → rRepT X.K (.ref a) (.int 5) H1 Q := fun xs a H1 s1 ha ne hl hx => by
      refine ⟨a, 5, xs, rfl, rfl, SqT.of ha, ne, .inr (by decide), by decide, Nat.le_of_lt (small1000 (by show xs.length * 5 ≤ 1000; omega)), fun c hc => ?_⟩
      have s2 := same_new (o := .tup (List.replicate (5 : Int).toNat xs).flatten) (Same.refl H1) hc
      have hpos : 0 < xs.length := List.length_pos_iff.mpr ne
      have hlen : (List.replicate (5 : Int).toNat xs).flatten.length = 5 * xs.length := by rw [len_rep]; rfl
      refine z _ _ (s1.trans s2) (bad_tup upd_same (by rw [hlen]; omega) (fun x hx1 => ?_) (.inr (.inl (by rw [hlen]; omega))))
      obtain ⟨l, hl1, hl2⟩ := List.mem_flatten.mp hx1
      rw [List.eq_of_mem_replicate hl1] at hl2
      exact (hP.same (s1.trans s2)).part x (hx x hl2)
    refine ⟨_, h3, 1, rfl, pg, ts, rfl, SqT.of hP.at_, fun _ => ?_, fun _ c hc => ?_⟩
    · exact go ts pg H (Same.refl H) hP.at_ (by rw [et]; intro z; cases z) hP.hi fun x hx => hx
    · rw [et, cut_first]
      refine go [.ref q] c _ (same_new (Same.refl H) hc) upd_same (by intro z; cases z) (by show 1 ≤ 4; decide) fun x hx => ?_
      rw [List.mem_singleton.mp hx, et]
      exact List.mem_cons_self
end
abbrev lawS (i : Nat) : Stmt := (defBody sLaw).getD i (.Pass ⟨0, 0, 0, 0⟩)
@[irreducible] def eBad : Expr := exprIn (lawS 5)
section
variable {X : Cx}
theorem pe_Bad (v3 : ∀ p, PE X (.Name "_law_program" p) (tVar 3)) (gl : Gl X "list") (ml : X.mg "list" = none) : PE X eBad (tBdL 9) := by
  unfold eBad
  refine @bdl X _ 9 _ (@bda_cons X _ _ 8 ?h1 rfl (@bda_cons X _ _ 7 ?h2 rfl (@bda_cons X _ _ 6 ?h3 rfl (@bda_cons X _ _ 5 ?h4 rfl (@bda_cons X _ _ 4 ?h5 rfl (@bda_cons X _ _ 3 ?h6 rfl (@bda_cons X _ _ 2 ?h7 rfl (@bda_cons X _ _ 1 ?h8 rfl (@bda_cons X _ _ 0 ?h9 rfl bda_nil))))))))) (by decide)
  case h1 => exact b1
  case h2 => exact b2
  case h3 => exact b3 (v3 _)
  case h4 => exact b4 (v3 _) gl ml
  case h5 => exact b5
  case h6 => exact b6 (by decide +kernel)
  case h7 => exact b7
  case h8 => exact b8 (n := 0) (v3 _)
  case h9 => exact b9 (v3 _)
end
end TL


namespace TL
open PySem PySem.Spec PyProof.Rows PySem.SeqAt L2 L3
theorem tupleOf_K {X : Cx} (K : PySem.W.Frag) (h : X.K = K := by rfl) : CallR X (.type "tuple") (fun xs H Q => ∃ p ys, xs = [.ref p] ∧ ((SqL K H p ys ∧ ∀ l, H l = none → Q (.ref l) (upd H l (.tup ys))) ∨ (SqT K H p ys ∧ Q (.ref p) H))) := by subst h; exact call_tuple_of
theorem PartsAt.lists {H0 H : Hp} {l : Addr} {rs : List Addr} (p : PartsAt H0 H l rs) (h4 : rs.length ≤ 4) : ∃ yss, yss.length = rs.length ∧ Paired (fun v ys => ∃ r, v = V.ref r ∧ H r = some (.lst ys) ∧ ys.length ≤ 1000 ∧ ∀ y ∈ ys, Told H y) (rs.map V.ref) yss := by
  have go : ∀ (l : List Addr), (∀ r ∈ l, ∃ ys, H r = some (.lst ys) ∧ ys.length ≤ 200 ∧ ∀ y ∈ ys, Told H y) → ∃ yss, yss.length = l.length ∧ Paired (fun v ys => ∃ r, v = V.ref r ∧ H r = some (.lst ys) ∧ ys.length ≤ 1000 ∧ ∀ y ∈ ys, Told H y) (l.map V.ref) yss := by
    intro l
    induction l with
    | nil => intro _; exact ⟨[], rfl, .nil⟩
    | cons r l ih =>
      intro h
      obtain ⟨ys, h1, h2, h3⟩ := h r List.mem_cons_self
      obtain ⟨yss, e, q⟩ := ih fun x hx => h x (List.mem_cons_of_mem _ hx)
      exact ⟨ys :: yss, by rw [List.length_cons, List.length_cons, e], .cons ⟨r, rfl, h1, by omega, h3⟩ q⟩
  exact go rs fun r hr => (p.each r hr).2
theorem paired_imp' {α β : Type} {F G : α → β → Prop} (f : ∀ a b, F a b → G a b) {l : List α} {r : List β} (h : Paired F l r) : Paired G l r := Paired.imp' f h
theorem paired_snoc {α β : Type} {F : α → β → Prop} {a : α} {b : β} {l : List α} {r : List β} (h : Paired F l r) (g : F a b) : Paired F (l ++ [a]) (r ++ [b]) := by
  induction h with
  | nil => exact .cons g .nil
  | cons x t ih => exact .cons x ih
theorem paired_mem {α β : Type} {F : α → β → Prop} {l : List α} {r : List β} (h : Paired F l r) {x : α} (hx : x ∈ l) : ∃ y ∈ r, F x y := by
  induction h with
  | nil => cases hx
  | cons g t ih =>
    rcases List.mem_cons.mp hx with e | e
    · subst e; exact ⟨_, List.mem_cons_self, g⟩
    · obtain ⟨y, h1, h2⟩ := ih e
      exact ⟨y, List.mem_cons_of_mem _ h1, h2⟩
theorem paired_memR {α β : Type} {F : α → β → Prop} {l : List α} {r : List β} (h : Paired F l r) {y : β} (hy : y ∈ r) : ∃ x ∈ l, F x y := by
  induction h with
  | nil => cases hy
  | cons g t ih =>
    rcases List.mem_cons.mp hy with e | e
    · subst e; exact ⟨_, List.mem_cons_self, g⟩
    · obtain ⟨x, h1, h2⟩ := ih e
      exact ⟨x, List.mem_cons_of_mem _ h1, h2⟩
theorem map_parts {H : Hp} {ts : List V} {yss : List (List V)} (h : Paired (fun t ys => ∃ p, t = V.ref p ∧ H p = some (.tup ys)) ts yss) : ts.map (partV H) = yss := by
  induction h with
  | nil => rfl
  | cons g t ih =>
    obtain ⟨p, e, hp⟩ := g
    rw [List.map_cons, ih, e]
    congr 1
    unfold partV
    rw [viewT_of hp]
    rfl
def dueN : Option (Nat × Nat) → List Int
  | none => []
  | some (c, p) => [(c : Int), (p : Int)]
theorem due_ints (o : Option (Nat × Nat)) : dueL o = (dueN o).map V.int := by
  cases o with
  | none => rfl
  | some x => rfl
theorem shaped_intsL (ns : List Int) : shaped (.list (ns.map PyData.int)) = true := shaped_map (fun e _ => by simp [PyData.canLay0]) fun e _ => by simp [PyData.depth]
theorem dat_due {K : PySem.W.Frag} {H : Hp} {q : Addr} {o : Option (Nat × Nat)} (h : H q = some (.lst (dueL o))) : DatV K H (.ref q) (.list ((dueN o).map PyData.int)) := by
  rw [due_ints] at h
  exact dat_ints (SqL.of h)
theorem shaped_clerks : shaped (.list [.str "clerks"]) = true := by decide +kernel
theorem bodyL : ∃ p1 p2, defBody sLaw = [lawS 0, lawS 1, lawS 2, lawS 3, lawS 4, .Assign [.Name "_law_bad" p1] eBad p2, lawS 6] := by
  unfold eBad
  exact ⟨_, _, rfl⟩
theorem sw_Bad {x : Str} {p : Pos} {n : Nat} {env : Env} : swapsWith eBad (some (.Name x p)) n env = pure false := by unfold eBad; rfl
theorem nd_lpart : (["_law_part"] : List Str).Nodup := by decide +kernel
section
variable {P : Program} {w : World} {K : PySem.W.Frag} {mg : Str → Option Value} {base : Heap}
def spLaw (K : PySem.W.Frag) : Sp := fun vs H Q _ => ∃ (a : Addr) (ns : List Int), vs = [.ref a] ∧ SqL K H a (ns.map V.int) ∧ ns.length ≤ 63 ∧ ∀ H', Q (.bl true) H'
theorem scLaw : FnScope ["_law_script", "_law_parts_here", "_law_k", "_law_program", "_law_due_here", "_law_bad"] ["_law_script"] (defScope sLaw) := ⟨rfl, rfl, rfl, by decide +kernel, rfl, by decide +kernel, by decide +kernel⟩
theorem ok_law0 {f fC fP fG fD fW : Addr} {fd fdC fdP fdG fdD fdW : FuncData} (F : Fun K "law" "law" sLaw f fd) (B : Bl mg) (hrg : mg "range" = none) (hls : mg "list" = none)
    (GC : FnOk P w K mg base CX0 1 fC fdC ["_law_script", "_law_k"] (spCell K)) (kC : PySem.W.keepIn K (.ref fC) = true) (bC : Binds K fdC ["_law_script", "_law_k"] []) (mC : mg "_law_cell_at" = some (.ref fC))
    (GP : FnOk P w K mg base CX0 2 fP fdP ["_law_script"] (spParts K)) (kP : PySem.W.keepIn K (.ref fP) = true) (bP : Binds K fdP ["_law_script"] []) (mP : mg "_law_parts" = some (.ref fP))
    (GG : FnOk P w K mg base CX0 2 fG fdG ["_law_parts_here", "_law_cell", "_law_k"] spCh) (kG : PySem.W.keepIn K (.ref fG) = true) (bG : Binds K fdG ["_law_parts_here", "_law_cell", "_law_k"] []) (mG : mg "_law_changed" = some (.ref fG))
    (GD : FnOk P w K mg base CX0 3 fD fdD ["_law_parts_here"] spDue) (kD : PySem.W.keepIn K (.ref fD) = true) (bD : Binds K fdD ["_law_parts_here"] []) (mD : mg "_law_due" = some (.ref fD))
    (GW : FnOk P w K mg base CX0 7 fW fdW ["_law_thing"] spWord) (kW : PySem.W.keepIn K (.ref fW) = true) (bW : Binds K fdW ["_law_thing"] []) (mW : mg "_law_word" = some (.ref fW)) :
    FnOk P w K mg base CX0 8 f fd ["_law_script"] (spLaw K) := by
  refine F.ok scLaw (fun vs H Q E h => ?_) (fun cdv A outer s H vs Q E hr h => ?_)
  · obtain ⟨a, ns, rfl, _⟩ := h
    rfl
  · obtain ⟨a, ns, rfl, hS, hlen, k⟩ := h
    have hr1 := hr.mono (j := 1) (by decide)
    have hr2 := hr.mono (j := 2) (by decide)
    have hr3 := hr.mono (j := 3) (by decide)
    have hu := hr.units
    obtain ⟨p1, p2, eb⟩ := bodyL
    rw [eb]
    -- behind the making of the parts: whatever stands there
    obtain ⟨tT, hT, useT⟩ : ∃ tT, PSs (cxOf CX0 P w K mg base ["_law_script", "_law_parts_here", "_law_k", "_law_program", "_law_due_here", "_law_bad"] "law" (defScope sLaw) f cdv A outer s H E).nox [lawS 2, lawS 3, lawS 4, .Assign [.Name "_law_bad" p1] eBad p2, lawS 6] tT ∧
        ∀ (l : Addr) (rs : List Addr) (H2 : Hp) (kk : Option V), Same H H2 → PartsAt H H2 l rs → 1 ≤ rs.length → rs.length ≤ 4 → tT { nx := fun _ H' => Q .non H', rt := Q } [some (.ref a), some (.ref l), kk, none, none, none] H2 := by
      -- behind the two words of the program
      obtain ⟨tU, hU, useU⟩ : ∃ tU, PSs (cxOf CX0 P w K mg base ["_law_script", "_law_parts_here", "_law_k", "_law_program", "_law_due_here", "_law_bad"] "law" (defScope sLaw) f cdv A outer s H E).nox [.Assign [.Name "_law_bad" p1] eBad p2, lawS 6] tU ∧
          ∀ (l pg : Addr) (ts : List V) (H4 : Hp) (kk dd : Option V), Same H H4 → PgAt H4 pg ts → tU { nx := fun _ H' => Q .non H', rt := Q } [some (.ref a), some (.ref l), kk, some (.ref pg), dd, none] H4 := by
        refine ⟨_, pss_cons (ps_set (i := 5) scLaw.nd rfl (Or.inl rfl) (pe_Bad (fun _ => pv 3) rfl hls) sw_Bad)
          (pss_one (ps_ret (pe_cmpR (op_eqD hu) (pe_call GW hr rfl mW kW bW .nil pass0 (pa_cons (pe_ix ix_list (pv 5) (pe_op op_mod (pe_op op_fdiv (pe_call GC hr1 rfl mC kC bC .nil pass0 (pa_cons (pv 0) (pa_cons pe_int pa_nil))) pe_int) pe_int) (fun _ _ => rfl)) pa_nil)) (pe_lst (pa_cons pe_str pa_nil)) (nomark _)))), fun l pg ts H4 kk dd s4 hpg => ?_⟩
        refine ⟨⟨pg, ts, rfl, hpg⟩, fun lb vs H5 hn s5 hlb hbad => ?_⟩
        obtain ⟨v, hv, hm⟩ := at_mem (xs := vs) (d := cellM ns 5 / 4) hn (by decide)
        have hb := hbad v hm
        refine ⟨_, rfl, _, rfl, a, ns, 5, rfl, (s4.trans s5).seq hS, by decide, _, _, rfl, rfl, ⟨by decide, by decide⟩, _, _, rfl, rfl, (by show (0 : Int) < 9; decide), lb, vs, _, v, rfl, rfl, SqL.of hlb, hv, ?_⟩
        refine ⟨v, rfl, hb.1, fun _ q H6 s6 hq => ?_, fun z => by rw [hb.2] at z; cases z⟩
        refine ⟨by show 1 ≤ sizeLine; decide, fun l9 n9 => ?_⟩
        exact eqD_self (d := .list [.str "clerks"]) (.lst (SqL.of (same_new (Same.refl _) n9 _ _ hq)) (.cons (.str _) .nil)) (.lst (SqL.of upd_same) (.cons (.str _) .nil)) shaped_clerks (k _)
      refine ⟨_, pss_cons (ps_set (i := 3) scLaw.nd rfl (Or.inl rfl) (pe_callTy call_tuple_of rfl B.tuple boot_tuple (pa_cons (pe_comp (N := ["_law_part"]) (idx := []) rfl (ScC.of (by kernel_rfl)) (gkeep_name (Nat.zero_le _))
          (pi_list (pv 1)) (fun _ _ _ _ => pg_name (i := 0) nd_lpart rfl (Or.inl rfl) (.inr rfl)) (fun _ _ _ _ => pts_nil) (fun _ _ _ _ => pe_callTy (tupleOf_K K) rfl B.tuple boot_tuple (pa_cons (pv 0) pa_nil))) pa_nil)))
        (pss_cons (ps_set (i := 4) scLaw.nd rfl (Or.inl rfl) (pe_call GD hr3 rfl mD kD bD .nil pass0 (pa_cons (pv 1) pa_nil)))
        (pss_cons (ps_if (PW.pt (pw_or (pt_cmpR (op_neD hu) (pe_call GW hr rfl mW kW bW .nil pass0 (pa_cons (pv 3) pa_nil)) (pv 4) (nomark _)) (pw_or1 (pt_cmpR (op_neD hu) (pe_call GW hr rfl mW kW bW .nil pass0 (pa_cons (pv 3) pa_nil)) (pv 4) (nomark _))))) (pss_one (ps_ret pe_bl)) pss_nil)
        hU)), fun l rs H2 kk s2 pt hlo hhi => ?_⟩
      obtain ⟨yss, hyl, hp⟩ := pt.lists hhi
      have hl2 := pt.at_
      have hvl : (rs.map V.ref).length = rs.length := List.length_map ..
      refine ⟨_, rfl, l, rfl, ⟨_, SqL.of hl2⟩, ?_⟩
      refine compW_of (n := (rs.map V.ref).length) (fun i ts H' => i ≤ (rs.map V.ref).length ∧ Same H2 H' ∧ Paired (fun t ys => ∃ p, t = V.ref p ∧ H' p = some (.tup ys)) ts (yss.take i)) ?_ ?_ ?_ ?_ ?_ ?_ ?_
      · exact Nat.le_of_lt (small1000 (by omega))
      · exact ⟨Nat.zero_le _, Same.refl _, .nil⟩
      · rintro i ts H' ⟨_, _, q⟩
        rw [Paired.length q, List.length_take]
        omega
      · rintro i ts H' hi ⟨_, s3, _⟩
        exact ⟨_, (rs.map V.ref)[i], SqL.of (s3 _ _ hl2), List.getElem?_eq_getElem hi⟩
      · rintro ts H' ⟨_, s3, _⟩
        exact ⟨_, SqL.of (s3 _ _ hl2), Nat.le_refl _⟩
      · rintro i ts H' hi ⟨_, s3, q⟩ x H'' ⟨eH, hx1⟩
        subst eH
        have hxi := hx1 _ (SqL.of (s3 _ _ hl2))
        obtain ⟨ys, hyi, r, er, hr0, _, _⟩ := paired_get' hp hxi
        subst er
        refine ⟨_, rfl, r, ys, rfl, .inl ⟨SqL.of (s3 _ _ hr0), fun p hp0 => ⟨hi, same_new s3 hp0, ?_⟩⟩⟩
        rw [List.take_add_one, hyi]
        exact paired_snoc (paired_imp' (fun t ys ⟨p', e, h⟩ => ⟨p', e, same_new (Same.refl _) hp0 _ _ h⟩) q) ⟨p, rfl, upd_same⟩
      rintro ts H' ⟨_, s3, q⟩
      rw [List.take_of_length_le (by rw [hvl, hyl]; exact Nat.le_refl _)] at q
      have htl : ts.length = rs.length := by rw [Paired.length q, hyl]
      refine ⟨Nat.le_of_lt (small1000 (by omega)), fun r hr0 => ?_⟩
      refine ⟨r, ts, rfl, .inl ⟨SqL.of upd_same, fun pg hpg => ?_⟩⟩
      have s4 : Same H' (upd (upd H' r (.lst ts)) pg (.tup ts)) := (same_new (Same.refl _) hr0).trans (same_new (Same.refl _) hpg)
      have hpgA : upd (upd H' r (.lst ts)) pg (.tup ts) pg = some (.tup ts) := upd_same
      generalize upd (upd H' r (.lst ts)) pg (.tup ts) = H3 at s4 hpgA
      have s23 := s3.trans s4
      have q3 : Paired (fun t ys => ∃ p, t = V.ref p ∧ H3 p = some (.tup ys)) ts yss := paired_imp' (fun t ys ⟨p', e, h⟩ => ⟨p', e, s4 _ _ h⟩) q
      have L3 : ListsAt H3 l yss := ⟨_, s23 _ _ hl2, by omega, paired_imp' (fun v ys ⟨r, e, h1, h2, h3⟩ => ⟨r, e, s23 _ _ h1, h2, fun y hy => (h3 y hy).same s23⟩) hp⟩
      have pgA : PgAt H3 pg ts := ⟨hpgA, by omega, by omega, fun t ht => by
        obtain ⟨ys, hy, p', e, h⟩ := paired_mem q3 ht
        obtain ⟨v, _, r, _, _, h2, h3⟩ := paired_memR hp hy
        exact ⟨p', ys, e, h, h2, fun y hy => (h3 y hy).same s23⟩⟩
      have eM : firstBad H3 0 ts = firstBadL H3 0 yss := by rw [firstBad_map, map_parts q3]
      refine ⟨_, rfl, l, yss, rfl, L3, fun qd H4 s5 hqd => ?_⟩
      have word : ∀ (H5 : Hp), Same H4 H5 → firstBad H5 0 ts = firstBadL H3 0 yss := fun H5 s6 => by rw [firstBad_same (s5.trans s6) pgA.part, eM]
      have pg4 := pgA.same s5
      refine ⟨_, rfl, .ref pg, rfl, pg4.prog, (fun z => by rw [pg4.has] at z; cases z), fun _ xs hxs q1 H5 s6 hq1 => ?_⟩
      rw [viewT_of pg4.at_] at hxs
      cases hxs
      rw [word H4 (Same.refl _)] at hq1
      refine ⟨_, rfl, neD_self (dat_due hq1) (dat_due (s6 _ _ hqd)) (shaped_intsL _) ⟨_, rfl, iteF ?_⟩⟩
      have pg5 := pg4.same s6
      refine ⟨_, rfl, .ref pg, rfl, pg5.prog, (fun z => by rw [pg5.has] at z; cases z), fun _ xs hxs q2 H6 s7 hq2 => ?_⟩
      rw [viewT_of pg5.at_] at hxs
      cases hxs
      rw [word H5 s6] at hq2
      refine ⟨_, rfl, neD_self (dat_due hq2) (dat_due (s7 _ _ (s6 _ _ hqd))) (shaped_intsL _) ⟨_, rfl, iteF ?_⟩⟩
      exact useU l pg ts H6 kk (some (.ref qd)) (s2.trans (s23.trans (s5.trans (s6.trans s7)))) (pg5.same s7)
    refine ⟨_, pss_cons (ps_set (i := 1) scLaw.nd rfl (Or.inl rfl) (pe_call GP hr2 rfl mP kP bP .nil pass0 (pa_cons (pv 0) pa_nil)))
      (pss_cons (ps_for PassesOwn.never rfl (pi_range1 rfl hrg (pa_cons (pe_op op_mod (pe_call GC hr1 rfl mC kC bC .nil pass0 (pa_cons (pv 0) (pa_cons pe_int pa_nil))) pe_int) pa_nil)) (pg_name (i := 2) scLaw.nd rfl (Or.inl rfl))
        (pss_one (ps_expr (pe_call GG hr2 rfl mG kG bG .nil pass0 (pa_cons (pv 1) (pa_cons (pe_call GC hr1 rfl mC kC bC .nil pass0 (pa_cons (pv 0) (pa_cons (pe_op op_add pe_int (pv 2)) pa_nil))) (pa_cons (pv 2) pa_nil)))))))
      hT), ?_⟩
    refine ⟨_, rfl, a, ns, rfl, hS, fun l rs H1 s1 pt hlo hhi => ?_⟩
    have hc4 : 0 ≤ cellM ns 5 % 4 ∧ cellM ns 5 % 4 < 4 := ⟨Int.emod_nonneg _ (by decide), Int.emod_lt_of_pos _ (by decide)⟩
    refine ⟨_, rfl, a, ns, 5, rfl, s1.seq hS, by decide, _, _, rfl, rfl, (by show (0 : Int) < 4; decide), _, rfl, by omega, by omega, ?_⟩
    refine for_range (fun i σ H' => ∃ kk, σ = [some (.ref a), some (.ref l), kk, none, none, none] ∧ Same H H' ∧ PartsAt H H' l rs) ⟨none, rfl, s1, pt⟩ ?_ ?_
    · rintro i σ H2 hi ⟨kk, rfl, s2, pt2⟩
      refine ⟨_, rfl, _, rfl, _, rfl, _, _, rfl, rfl, a, ns, _, rfl, s2.seq hS, by omega, _, rfl, H, l, rs, _, _, rfl, s2, pt2, hlo, hhi, fun H3 s3 pt3 => ⟨_, rfl, s3, pt3⟩⟩
    · rintro σ H2 ⟨kk, rfl, s2, pt2⟩
      exact useT l rs H2 kk s2 pt2 hlo hhi
end
end TL



namespace TL
open PySem PySem.Spec PyProof.Rows PySem.SeqAt L2 L3
theorem tup_lit {K : PySem.W.Frag} {H : Hp} {a : Addr} {d : Option Addr} {its : Array Value} {n : Nat} {sl : Array (Option Value)} {xs : List V} {us : List Value} (h : K.lookup a = some ⟨.type "tuple", d, .seq its n, sl⟩) (e : its.toList = us) (hz : us.length ≤ sizeLine) (r : Vals xs us) : SqT K H a xs :=
  .inr ⟨_, its, n, h, rfl, rfl, by rw [← Array.length_toList, e]; exact hz, by rw [e]; exact r⟩
theorem lenL1 {us : List Value} (h : us.length = 1) : ∃ a, us = [a] := List.length_eq_one_iff.mp h
theorem lenL2 {us : List Value} (h : us.length = 2) : ∃ a b, us = [a, b] := by
  match us, h with
  | [a, b], _ => exact ⟨a, b, rfl⟩
theorem lenL3 {us : List Value} (h : us.length = 3) : ∃ a b c, us = [a, b, c] := by
  match us, h with
  | [a, b, c], _ => exact ⟨a, b, c, rfl⟩

theorem all_mk {l : PySem.W.OpenLaw} {w : World} {K : PySem.W.Frag} {h : Heap} {mg : Str → Option Value} {fa xEr xNo xNC xNP xNK xNT cStep cPut cAdd cSet cLook cSwap cSkip cClear fW fB fS fO fI fPut fAdd fSet fLook fSwap fSkip fNPI fHC fFI fLO fCA fMI fLS fLN fIN fPA fCH fDU fWO fLaw : Addr} (X : K.In h) (G : h.Ns mainGlobals mg) (hfa : mg "law" = some (.ref fa))
    {odW odB odS odO odI odPut odAdd odSet odLook odSwap odSkip odNPI odHC odFI odLO odCA odMI odLS odLN odIN odPA odCH odDU odWO odLaw anW anB anS anO anI anPut anAdd anSet anLook anSwap anSkip anNPI anHC anFI anLO anCA anMI anLS anLN anIN anPA anCH anDU anWO anLaw : Option Addr} {slW slB slS slO slI slPut slAdd slSet slLook slSwap slSkip slNPI slHC slFI slLO slCA slMI slLS slLN slIN slPA slCH slDU slWO slLaw : Array (Option Value)} {ocW ocB ocS ocO ocI ocPut ocAdd ocSet ocLook ocSwap ocSkip ocNPI ocHC ocFI ocLO ocCA ocMI ocLS ocLN ocIN ocPA ocCH ocDU ocWO ocLaw kVW kVB kVS kVO kVI kVPut kVAdd kVSet kVLook kVSwap kVSkip kVNPI kVHC kVFI kVLO kVCA kVMI kVLS kVLN kVIN kVPA kVCH kVDU kVWO kVLaw dcW dcB dcS dcO dcI dcPut dcAdd dcSet dcLook dcSwap dcSkip dcNPI dcHC dcFI dcLO dcCA dcMI dcLS dcLN dcIN dcPA dcCH dcDU dcWO dcLaw pmW pmB pmS pmO pmI pmPut pmAdd pmSet pmLook pmSwap pmSkip pmNPI pmHC pmFI pmLO pmCA pmMI pmLS pmLN pmIN pmPA pmCH pmDU pmWO pmLaw ctW ctB ctS ctO ctI ctPut ctAdd ctSet ctLook ctSwap ctSkip ctNPI ctHC ctFI ctLO ctCA ctMI ctLS ctLN ctIN ctPA ctCH ctDU ctWO ctLaw cdW cdB cdS cdO cdI cdPut cdAdd cdSet cdLook cdSwap cdSkip cdNPI cdHC cdFI cdLO cdCA cdMI cdLS cdLN cdIN cdPA cdCH cdDU cdWO cdLaw : Value} {t_TOP t_NAMES t_REGISTERS t_LONGEST t_CLERKS : Tok}
    (xa_Er : PySem.W.nsIn K mainGlobals "TrayError" = some (some (.ref xEr)))
    (xa_No : PySem.W.nsIn K mainGlobals "NoStep" = some (some (.ref xNo)))
    (xa_NC : PySem.W.nsIn K mainGlobals "NoClerks" = some (some (.ref xNC)))
    (xa_NP : PySem.W.nsIn K mainGlobals "NoProgram" = some (some (.ref xNP)))
    (xa_NK : PySem.W.nsIn K mainGlobals "NoKind" = some (some (.ref xNK)))
    (xa_NT : PySem.W.nsIn K mainGlobals "NoText" = some (some (.ref xNT)))
    (aCStep : PySem.W.nsIn K mainGlobals "Step" = some (some (.ref cStep)))
    (aCPut : PySem.W.nsIn K mainGlobals "Put" = some (some (.ref cPut)))
    (aCAdd : PySem.W.nsIn K mainGlobals "Add" = some (some (.ref cAdd)))
    (aCSet : PySem.W.nsIn K mainGlobals "Set" = some (some (.ref cSet)))
    (aCLook : PySem.W.nsIn K mainGlobals "Look" = some (some (.ref cLook)))
    (aCSwap : PySem.W.nsIn K mainGlobals "Swap" = some (some (.ref cSwap)))
    (aCSkip : PySem.W.nsIn K mainGlobals "Skip" = some (some (.ref cSkip)))
    (aCClear : PySem.W.nsIn K mainGlobals "Clear" = some (some (.ref cClear)))
    (aW : PySem.W.nsIn K mainGlobals "is_whole" = some (some (.ref fW)))
    (lW : K.lookup fW = some ⟨ocW, odW, .func (PySem.W.fnOf "is_whole" "is_whole" (defArgs sWhole) (defBody sWhole) (defScope sWhole) .none kVW dcW pmW anW cdW ctW), slW⟩)
    (c_W : PySem.W.codeIn K cdW "is_whole" = true)
    (kW : PySem.W.keepIn K (.ref fW) = true)
    (aB : PySem.W.nsIn K mainGlobals "bounds_of" = some (some (.ref fB)))
    (lB : K.lookup fB = some ⟨ocB, odB, .func (PySem.W.fnOf "bounds_of" "bounds_of" (defArgs sBounds) (defBody sBounds) (defScope sBounds) .none kVB dcB pmB anB cdB ctB), slB⟩)
    (c_B : PySem.W.codeIn K cdB "bounds_of" = true)
    (kB : PySem.W.keepIn K (.ref fB) = true)
    (aS : PySem.W.nsIn K mainGlobals "is_step" = some (some (.ref fS)))
    (lS : K.lookup fS = some ⟨ocS, odS, .func (PySem.W.fnOf "is_step" "is_step" (defArgs sIsStep) (defBody sIsStep) (defScope sIsStep) .none kVS dcS pmS anS cdS ctS), slS⟩)
    (c_S : PySem.W.codeIn K cdS "is_step" = true)
    (kS : PySem.W.keepIn K (.ref fS) = true)
    (aO : PySem.W.nsIn K mainGlobals "step_of" = some (some (.ref fO)))
    (lO : K.lookup fO = some ⟨ocO, odO, .func (PySem.W.fnOf "step_of" "step_of" (defArgs sStepOf) (defBody sStepOf) (defScope sStepOf) .none kVO dcO pmO anO cdO ctO), slO⟩)
    (c_O : PySem.W.codeIn K cdO "step_of" = true)
    (kO : PySem.W.keepIn K (.ref fO) = true)
    (aI : PySem.W.findIn K (.ref cStep) "__init__" = some (some (.ref fI)))
    (lI : K.lookup fI = some ⟨ocI, odI, .func (PySem.W.fnOf "__init__" "Step.__init__" (defArgs sInit) (defBody sInit) (defScope sInit) .none kVI dcI pmI anI cdI ctI), slI⟩)
    (c_I : PySem.W.codeIn K cdI "Step.__init__" = true)
    (kI : PySem.W.keepIn K (.ref fI) = true)
    (iI : PySem.W.isFn K (.ref fI) = true)
    (aPut : PySem.W.findIn K (.ref cPut) "__init__" = some (some (.ref fPut)))
    (lPut : K.lookup fPut = some ⟨ocPut, odPut, .func (PySem.W.fnOf "__init__" "Put.__init__" (defArgs sPutI) (defBody sPutI) (defScope sPutI) .none kVPut dcPut pmPut anPut cdPut ctPut), slPut⟩)
    (c_Put : PySem.W.codeIn K cdPut "Put.__init__" = true)
    (kPut : PySem.W.keepIn K (.ref fPut) = true)
    (iPut : PySem.W.isFn K (.ref fPut) = true)
    (aAdd : PySem.W.findIn K (.ref cAdd) "__init__" = some (some (.ref fAdd)))
    (lAdd : K.lookup fAdd = some ⟨ocAdd, odAdd, .func (PySem.W.fnOf "__init__" "Add.__init__" (defArgs sAddI) (defBody sAddI) (defScope sAddI) .none kVAdd dcAdd pmAdd anAdd cdAdd ctAdd), slAdd⟩)
    (c_Add : PySem.W.codeIn K cdAdd "Add.__init__" = true)
    (kAdd : PySem.W.keepIn K (.ref fAdd) = true)
    (iAdd : PySem.W.isFn K (.ref fAdd) = true)
    (aSet : PySem.W.findIn K (.ref cSet) "__init__" = some (some (.ref fSet)))
    (lSet : K.lookup fSet = some ⟨ocSet, odSet, .func (PySem.W.fnOf "__init__" "Set.__init__" (defArgs sSetI) (defBody sSetI) (defScope sSetI) .none kVSet dcSet pmSet anSet cdSet ctSet), slSet⟩)
    (c_Set : PySem.W.codeIn K cdSet "Set.__init__" = true)
    (kSet : PySem.W.keepIn K (.ref fSet) = true)
    (iSet : PySem.W.isFn K (.ref fSet) = true)
    (aLook : PySem.W.findIn K (.ref cLook) "__init__" = some (some (.ref fLook)))
    (lLook : K.lookup fLook = some ⟨ocLook, odLook, .func (PySem.W.fnOf "__init__" "Look.__init__" (defArgs sLookI) (defBody sLookI) (defScope sLookI) .none kVLook dcLook pmLook anLook cdLook ctLook), slLook⟩)
    (c_Look : PySem.W.codeIn K cdLook "Look.__init__" = true)
    (kLook : PySem.W.keepIn K (.ref fLook) = true)
    (iLook : PySem.W.isFn K (.ref fLook) = true)
    (aSwap : PySem.W.findIn K (.ref cSwap) "__init__" = some (some (.ref fSwap)))
    (lSwap : K.lookup fSwap = some ⟨ocSwap, odSwap, .func (PySem.W.fnOf "__init__" "Swap.__init__" (defArgs sSwapI) (defBody sSwapI) (defScope sSwapI) .none kVSwap dcSwap pmSwap anSwap cdSwap ctSwap), slSwap⟩)
    (c_Swap : PySem.W.codeIn K cdSwap "Swap.__init__" = true)
    (kSwap : PySem.W.keepIn K (.ref fSwap) = true)
    (iSwap : PySem.W.isFn K (.ref fSwap) = true)
    (aSkip : PySem.W.findIn K (.ref cSkip) "__init__" = some (some (.ref fSkip)))
    (lSkip : K.lookup fSkip = some ⟨ocSkip, odSkip, .func (PySem.W.fnOf "__init__" "Skip.__init__" (defArgs sSkipI) (defBody sSkipI) (defScope sSkipI) .none kVSkip dcSkip pmSkip anSkip cdSkip ctSkip), slSkip⟩)
    (c_Skip : PySem.W.codeIn K cdSkip "Skip.__init__" = true)
    (kSkip : PySem.W.keepIn K (.ref fSkip) = true)
    (iSkip : PySem.W.isFn K (.ref fSkip) = true)
    (aNPI : PySem.W.findIn K (.ref xNP) "__init__" = some (some (.ref fNPI)))
    (lNPI : K.lookup fNPI = some ⟨ocNPI, odNPI, .func (PySem.W.fnOf "__init__" "NoProgram.__init__" (defArgs sNPI) (defBody sNPI) (defScope sNPI) .none kVNPI dcNPI pmNPI anNPI cdNPI ctNPI), slNPI⟩)
    (c_NPI : PySem.W.codeIn K cdNPI "NoProgram.__init__" = true)
    (kNPI : PySem.W.keepIn K (.ref fNPI) = true)
    (iNPI : PySem.W.isFn K (.ref fNPI) = true)
    (aHC : PySem.W.nsIn K mainGlobals "has_clerks" = some (some (.ref fHC)))
    (lHC : K.lookup fHC = some ⟨ocHC, odHC, .func (PySem.W.fnOf "has_clerks" "has_clerks" (defArgs sHas) (defBody sHas) (defScope sHas) .none kVHC dcHC pmHC anHC cdHC ctHC), slHC⟩)
    (c_HC : PySem.W.codeIn K cdHC "has_clerks" = true)
    (kHC : PySem.W.keepIn K (.ref fHC) = true)
    (aFI : PySem.W.nsIn K mainGlobals "fits" = some (some (.ref fFI)))
    (lFI : K.lookup fFI = some ⟨ocFI, odFI, .func (PySem.W.fnOf "fits" "fits" (defArgs sFits) (defBody sFits) (defScope sFits) .none kVFI dcFI pmFI anFI cdFI ctFI), slFI⟩)
    (c_FI : PySem.W.codeIn K cdFI "fits" = true)
    (kFI : PySem.W.keepIn K (.ref fFI) = true)
    (aLO : PySem.W.nsIn K mainGlobals "look_over" = some (some (.ref fLO)))
    (lLO : K.lookup fLO = some ⟨ocLO, odLO, .func (PySem.W.fnOf "look_over" "look_over" (defArgs sLookOver) (defBody sLookOver) (defScope sLookOver) .none kVLO dcLO pmLO anLO cdLO ctLO), slLO⟩)
    (c_LO : PySem.W.codeIn K cdLO "look_over" = true)
    (kLO : PySem.W.keepIn K (.ref fLO) = true)
    (aCA : PySem.W.nsIn K mainGlobals "_law_cell_at" = some (some (.ref fCA)))
    (lCA : K.lookup fCA = some ⟨ocCA, odCA, .func (PySem.W.fnOf "_law_cell_at" "_law_cell_at" (defArgs sCellAt) (defBody sCellAt) (defScope sCellAt) .none kVCA dcCA pmCA anCA cdCA ctCA), slCA⟩)
    (c_CA : PySem.W.codeIn K cdCA "_law_cell_at" = true)
    (kCA : PySem.W.keepIn K (.ref fCA) = true)
    (aMI : PySem.W.nsIn K mainGlobals "_law_mixed" = some (some (.ref fMI)))
    (lMI : K.lookup fMI = some ⟨ocMI, odMI, .func (PySem.W.fnOf "_law_mixed" "_law_mixed" (defArgs sMixed) (defBody sMixed) (defScope sMixed) .none kVMI dcMI pmMI anMI cdMI ctMI), slMI⟩)
    (c_MI : PySem.W.codeIn K cdMI "_law_mixed" = true)
    (kMI : PySem.W.keepIn K (.ref fMI) = true)
    (aLS : PySem.W.nsIn K mainGlobals "_law_step" = some (some (.ref fLS)))
    (lLS : K.lookup fLS = some ⟨ocLS, odLS, .func (PySem.W.fnOf "_law_step" "_law_step" (defArgs sLStep) (defBody sLStep) (defScope sLStep) .none kVLS dcLS pmLS anLS cdLS ctLS), slLS⟩)
    (c_LS : PySem.W.codeIn K cdLS "_law_step" = true)
    (kLS : PySem.W.keepIn K (.ref fLS) = true)
    (aLN : PySem.W.nsIn K mainGlobals "_law_none" = some (some (.ref fLN)))
    (lLN : K.lookup fLN = some ⟨ocLN, odLN, .func (PySem.W.fnOf "_law_none" "_law_none" (defArgs sLNone) (defBody sLNone) (defScope sLNone) .none kVLN dcLN pmLN anLN cdLN ctLN), slLN⟩)
    (c_LN : PySem.W.codeIn K cdLN "_law_none" = true)
    (kLN : PySem.W.keepIn K (.ref fLN) = true)
    (aIN : PySem.W.nsIn K mainGlobals "_law_is_none" = some (some (.ref fIN)))
    (lIN : K.lookup fIN = some ⟨ocIN, odIN, .func (PySem.W.fnOf "_law_is_none" "_law_is_none" (defArgs sIsNone) (defBody sIsNone) (defScope sIsNone) .none kVIN dcIN pmIN anIN cdIN ctIN), slIN⟩)
    (c_IN : PySem.W.codeIn K cdIN "_law_is_none" = true)
    (kIN : PySem.W.keepIn K (.ref fIN) = true)
    (aPA : PySem.W.nsIn K mainGlobals "_law_parts" = some (some (.ref fPA)))
    (lPA : K.lookup fPA = some ⟨ocPA, odPA, .func (PySem.W.fnOf "_law_parts" "_law_parts" (defArgs sParts) (defBody sParts) (defScope sParts) .none kVPA dcPA pmPA anPA cdPA ctPA), slPA⟩)
    (c_PA : PySem.W.codeIn K cdPA "_law_parts" = true)
    (kPA : PySem.W.keepIn K (.ref fPA) = true)
    (aCH : PySem.W.nsIn K mainGlobals "_law_changed" = some (some (.ref fCH)))
    (lCH : K.lookup fCH = some ⟨ocCH, odCH, .func (PySem.W.fnOf "_law_changed" "_law_changed" (defArgs sChanged) (defBody sChanged) (defScope sChanged) .none kVCH dcCH pmCH anCH cdCH ctCH), slCH⟩)
    (c_CH : PySem.W.codeIn K cdCH "_law_changed" = true)
    (kCH : PySem.W.keepIn K (.ref fCH) = true)
    (aDU : PySem.W.nsIn K mainGlobals "_law_due" = some (some (.ref fDU)))
    (lDU : K.lookup fDU = some ⟨ocDU, odDU, .func (PySem.W.fnOf "_law_due" "_law_due" (defArgs sDue) (defBody sDue) (defScope sDue) .none kVDU dcDU pmDU anDU cdDU ctDU), slDU⟩)
    (c_DU : PySem.W.codeIn K cdDU "_law_due" = true)
    (kDU : PySem.W.keepIn K (.ref fDU) = true)
    (aWO : PySem.W.nsIn K mainGlobals "_law_word" = some (some (.ref fWO)))
    (lWO : K.lookup fWO = some ⟨ocWO, odWO, .func (PySem.W.fnOf "_law_word" "_law_word" (defArgs sWord) (defBody sWord) (defScope sWord) .none kVWO dcWO pmWO anWO cdWO ctWO), slWO⟩)
    (c_WO : PySem.W.codeIn K cdWO "_law_word" = true)
    (kWO : PySem.W.keepIn K (.ref fWO) = true)
    (aLaw : PySem.W.nsIn K mainGlobals "law" = some (some (.ref fLaw)))
    (lLaw : K.lookup fLaw = some ⟨ocLaw, odLaw, .func (PySem.W.fnOf "law" "law" (defArgs sLaw) (defBody sLaw) (defScope sLaw) .none kVLaw dcLaw pmLaw anLaw cdLaw ctLaw), slLaw⟩)
    (c_Law : PySem.W.codeIn K cdLaw "law" = true)
    (kLaw : PySem.W.keepIn K (.ref fLaw) = true)
    (pgStep : PySem.W.plainGet K cStep Str.empty = true)
    (hdStep : PySem.W.hasDictIn K cStep = true)
    (poStep : PySem.W.plainOver K cStep = true)
    (saStep : PySem.W.findIn K (.ref cStep) "__setattr__" = some (some (.builtin "object.__setattr__")))
    (pgPut : PySem.W.plainGet K cPut Str.empty = true)
    (hdPut : PySem.W.hasDictIn K cPut = true)
    (poPut : PySem.W.plainOver K cPut = true)
    (saPut : PySem.W.findIn K (.ref cPut) "__setattr__" = some (some (.builtin "object.__setattr__")))
    (mkPut : PySem.W.makesIn K cPut = true)
    (kcPut : PySem.W.keepIn K (.ref cPut) = true)
    (nPut_parts : PySem.W.findIn K (.ref cPut) "parts" = some none)
    (nPut_reg : PySem.W.findIn K (.ref cPut) "reg" = some none)
    (nPut_number : PySem.W.findIn K (.ref cPut) "number" = some none)
    (pgAdd : PySem.W.plainGet K cAdd Str.empty = true)
    (hdAdd : PySem.W.hasDictIn K cAdd = true)
    (poAdd : PySem.W.plainOver K cAdd = true)
    (saAdd : PySem.W.findIn K (.ref cAdd) "__setattr__" = some (some (.builtin "object.__setattr__")))
    (mkAdd : PySem.W.makesIn K cAdd = true)
    (kcAdd : PySem.W.keepIn K (.ref cAdd) = true)
    (nAdd_parts : PySem.W.findIn K (.ref cAdd) "parts" = some none)
    (nAdd_reg : PySem.W.findIn K (.ref cAdd) "reg" = some none)
    (nAdd_other : PySem.W.findIn K (.ref cAdd) "other" = some none)
    (pgSet : PySem.W.plainGet K cSet Str.empty = true)
    (hdSet : PySem.W.hasDictIn K cSet = true)
    (poSet : PySem.W.plainOver K cSet = true)
    (saSet : PySem.W.findIn K (.ref cSet) "__setattr__" = some (some (.builtin "object.__setattr__")))
    (mkSet : PySem.W.makesIn K cSet = true)
    (kcSet : PySem.W.keepIn K (.ref cSet) = true)
    (nSet_parts : PySem.W.findIn K (.ref cSet) "parts" = some none)
    (nSet_name : PySem.W.findIn K (.ref cSet) "name" = some none)
    (nSet_reg : PySem.W.findIn K (.ref cSet) "reg" = some none)
    (pgLook : PySem.W.plainGet K cLook Str.empty = true)
    (hdLook : PySem.W.hasDictIn K cLook = true)
    (poLook : PySem.W.plainOver K cLook = true)
    (saLook : PySem.W.findIn K (.ref cLook) "__setattr__" = some (some (.builtin "object.__setattr__")))
    (mkLook : PySem.W.makesIn K cLook = true)
    (kcLook : PySem.W.keepIn K (.ref cLook) = true)
    (nLook_parts : PySem.W.findIn K (.ref cLook) "parts" = some none)
    (nLook_reg : PySem.W.findIn K (.ref cLook) "reg" = some none)
    (nLook_name : PySem.W.findIn K (.ref cLook) "name" = some none)
    (pgSwap : PySem.W.plainGet K cSwap Str.empty = true)
    (hdSwap : PySem.W.hasDictIn K cSwap = true)
    (poSwap : PySem.W.plainOver K cSwap = true)
    (saSwap : PySem.W.findIn K (.ref cSwap) "__setattr__" = some (some (.builtin "object.__setattr__")))
    (mkSwap : PySem.W.makesIn K cSwap = true)
    (kcSwap : PySem.W.keepIn K (.ref cSwap) = true)
    (nSwap_parts : PySem.W.findIn K (.ref cSwap) "parts" = some none)
    (nSwap_reg : PySem.W.findIn K (.ref cSwap) "reg" = some none)
    (nSwap_name : PySem.W.findIn K (.ref cSwap) "name" = some none)
    (pgSkip : PySem.W.plainGet K cSkip Str.empty = true)
    (hdSkip : PySem.W.hasDictIn K cSkip = true)
    (poSkip : PySem.W.plainOver K cSkip = true)
    (saSkip : PySem.W.findIn K (.ref cSkip) "__setattr__" = some (some (.builtin "object.__setattr__")))
    (mkSkip : PySem.W.makesIn K cSkip = true)
    (kcSkip : PySem.W.keepIn K (.ref cSkip) = true)
    (nSkip_parts : PySem.W.findIn K (.ref cSkip) "parts" = some none)
    (nSkip_reg : PySem.W.findIn K (.ref cSkip) "reg" = some none)
    (nSkip_place : PySem.W.findIn K (.ref cSkip) "place" = some none)
    (pgClear : PySem.W.plainGet K cClear Str.empty = true)
    (hdClear : PySem.W.hasDictIn K cClear = true)
    (poClear : PySem.W.plainOver K cClear = true)
    (saClear : PySem.W.findIn K (.ref cClear) "__setattr__" = some (some (.builtin "object.__setattr__")))
    (mkClear : PySem.W.makesIn K cClear = true)
    (kcClear : PySem.W.keepIn K (.ref cClear) = true)
    (nClear_parts : PySem.W.findIn K (.ref cClear) "parts" = some none)
    (inPut : PySem.W.findIn K (.ref cPut) "__init__" = some (some (.ref fPut)))
    (inAdd : PySem.W.findIn K (.ref cAdd) "__init__" = some (some (.ref fAdd)))
    (inSet : PySem.W.findIn K (.ref cSet) "__init__" = some (some (.ref fSet)))
    (inLook : PySem.W.findIn K (.ref cLook) "__init__" = some (some (.ref fLook)))
    (inSwap : PySem.W.findIn K (.ref cSwap) "__init__" = some (some (.ref fSwap)))
    (inSkip : PySem.W.findIn K (.ref cSkip) "__init__" = some (some (.ref fSkip)))
    (inClear : PySem.W.findIn K (.ref cClear) "__init__" = some (some (.ref fI)))
    (spStep : PySem.W.specialIn K (.ref cStep) "__getattribute__" = some (some (.builtin "type.__getattribute__")))
    (rdStep : PySem.W.readsIn K cStep (.type "type") = true)
    (fcStep___init__ : PySem.W.findCls K (.ref cStep) (.type "type") "__init__" = some (.val (.ref fI)))
    (z_isinstance : PySem.W.nsIn K mainGlobals "isinstance" = some none)
    (z_int : PySem.W.nsIn K mainGlobals "int" = some none)
    (z_bool : PySem.W.nsIn K mainGlobals "bool" = some none)
    (z_str : PySem.W.nsIn K mainGlobals "str" = some none)
    (z_tuple : PySem.W.nsIn K mainGlobals "tuple" = some none)
    (z_len : PySem.W.nsIn K mainGlobals "len" = some none)
    (z_all : PySem.W.nsIn K mainGlobals "all" = some none)
    (z_zip : PySem.W.nsIn K mainGlobals "zip" = some none)
    (z_enumerate : PySem.W.nsIn K mainGlobals "enumerate" = some none)
    (z_range : PySem.W.nsIn K mainGlobals "range" = some none)
    (z_list : PySem.W.nsIn K mainGlobals "list" = some none)
    (z_ValueError : PySem.W.nsIn K mainGlobals "ValueError" = some none)
    (v_TOP : PySem.W.nsIn K mainGlobals "TOP" = some (some (.int TOPi t_TOP)))
    (v_NAMES : PySem.W.nsIn K mainGlobals "NAMES" = some (some (.int 12 t_NAMES)))
    (v_REGISTERS : PySem.W.nsIn K mainGlobals "REGISTERS" = some (some (.int 4 t_REGISTERS)))
    (v_LONGEST : PySem.W.nsIn K mainGlobals "LONGEST" = some (some (.int 120 t_LONGEST)))
    (v_CLERKS : PySem.W.nsIn K mainGlobals "CLERKS" = some (some (.int 4 t_CLERKS)))
    (xe_No : PySem.W.excIn K xNo bmVE "ValueError.__new__" = true)
    (xk_No : PySem.W.keepIn K (.ref xNo) = true)
    (xs_No : PySem.W.kitCls K (.ref xNo) (.ref xNo) = some true)
    (xb_No : PySem.W.kitCls K (.ref xNo) (.type "BaseException") = some true)
    (xt_No : PySem.W.kitOne K (.ref xNo) (.ref xEr) = some true)
    (xv_No : PySem.W.kitOne K (.ref xNo) (.type "ValueError") = some true)
    (y_gt : PySem.W.specialIn K (.builtin "object.__class__") "__get__" = some (some (.builtin "getset_descriptor.__get__")))
    (y_tk : PySem.W.takesIn K (.builtin "object.__class__") = some true)
    (y_be : PySem.W.kitCls K (.ref xEr) (.type "BaseException") = some true)
    (y_ce : PySem.W.excIn K xNC bmVE "ValueError.__new__" = true)
    (kc_NC : PySem.W.keepIn K (.ref xNC) = true)
    (y_pe : excInI K xNP bmVE "ValueError.__new__" = true)
    (kc_NP : PySem.W.keepIn K (.ref xNP) = true)
    (y_ps : PySem.W.findIn K (.ref xNP) "__setattr__" = some (some (.builtin "object.__setattr__")))
    (y_pc : (PySem.W.clsIn K xNP).any (fun cd => onlyExc cd.mro && cd.hasDict) = true)
    (y_n1 : PySem.W.findIn K (.ref xNP) "clerk" = some none)
    (y_n2 : PySem.W.findIn K (.ref xNP) "place" = some none)
    (y_clPut : PySem.W.findIn K (.ref cPut) "__class__" = some (some (.builtin "object.__class__")))
    (y_mrPut : PySem.W.mroIn K cPut (.type "object") = some true)
    (y_onPut : PySem.W.kitOne K (.ref cPut) (.ref cSkip) = some false)
    (y_clAdd : PySem.W.findIn K (.ref cAdd) "__class__" = some (some (.builtin "object.__class__")))
    (y_mrAdd : PySem.W.mroIn K cAdd (.type "object") = some true)
    (y_onAdd : PySem.W.kitOne K (.ref cAdd) (.ref cSkip) = some false)
    (y_clSet : PySem.W.findIn K (.ref cSet) "__class__" = some (some (.builtin "object.__class__")))
    (y_mrSet : PySem.W.mroIn K cSet (.type "object") = some true)
    (y_onSet : PySem.W.kitOne K (.ref cSet) (.ref cSkip) = some false)
    (y_clLook : PySem.W.findIn K (.ref cLook) "__class__" = some (some (.builtin "object.__class__")))
    (y_mrLook : PySem.W.mroIn K cLook (.type "object") = some true)
    (y_onLook : PySem.W.kitOne K (.ref cLook) (.ref cSkip) = some false)
    (y_clSwap : PySem.W.findIn K (.ref cSwap) "__class__" = some (some (.builtin "object.__class__")))
    (y_mrSwap : PySem.W.mroIn K cSwap (.type "object") = some true)
    (y_onSwap : PySem.W.kitOne K (.ref cSwap) (.ref cSkip) = some false)
    (y_clSkip : PySem.W.findIn K (.ref cSkip) "__class__" = some (some (.builtin "object.__class__")))
    (y_mrSkip : PySem.W.mroIn K cSkip (.type "object") = some true)
    (y_onSkip : PySem.W.kitOne K (.ref cSkip) (.ref cSkip) = some true)
    (y_clClear : PySem.W.findIn K (.ref cClear) "__class__" = some (some (.builtin "object.__class__")))
    (y_mrClear : PySem.W.mroIn K cClear (.type "object") = some true)
    (y_onClear : PySem.W.kitOne K (.ref cClear) (.ref cSkip) = some false)
    (y_gaNC : PySem.W.findIn K (.ref xNC) (Str.ofString "__getattribute__") = some (some (.builtin gaBE)))
    (y_gnNC : PySem.W.findIn K (.ref xNC) (Str.ofString "__getattr__") = some none)
    (y_bxNC : PySem.W.mroIn K xNC (.type "BaseException") = some true)
    (y_khNC : PySem.W.hasDictIn K xNC = true)
    (y_kcNC : PySem.W.findIn K (.ref xNC) (Str.ofString "__class__") = some (some (.builtin "object.__class__")))
    (y_kmNC : PySem.W.mroIn K xNC (.type "object") = some true)
    (y_keNC : PySem.W.kitCls K (.ref xNC) (.ref xEr) = some true)
    (y_oNCNP : PySem.W.kitOne K (.ref xNC) (.ref xNP) = some false)
    (y_oNCNC : PySem.W.kitOne K (.ref xNC) (.ref xNC) = some true)
    (y_oNCNo : PySem.W.kitOne K (.ref xNC) (.ref xNo) = some false)
    (y_oNCNT : PySem.W.kitOne K (.ref xNC) (.ref xNT) = some false)
    (y_oNCNK : PySem.W.kitOne K (.ref xNC) (.ref xNK) = some false)
    (y_vNC : PySem.W.kitOne K (.ref xNC) (.type "ValueError") = some true)
    (y_gaNP : PySem.W.findIn K (.ref xNP) (Str.ofString "__getattribute__") = some (some (.builtin gaBE)))
    (y_gnNP : PySem.W.findIn K (.ref xNP) (Str.ofString "__getattr__") = some none)
    (y_bxNP : PySem.W.mroIn K xNP (.type "BaseException") = some true)
    (y_khNP : PySem.W.hasDictIn K xNP = true)
    (y_kcNP : PySem.W.findIn K (.ref xNP) (Str.ofString "__class__") = some (some (.builtin "object.__class__")))
    (y_kmNP : PySem.W.mroIn K xNP (.type "object") = some true)
    (y_keNP : PySem.W.kitCls K (.ref xNP) (.ref xEr) = some true)
    (y_oNPNP : PySem.W.kitOne K (.ref xNP) (.ref xNP) = some true)
    (y_oNPNC : PySem.W.kitOne K (.ref xNP) (.ref xNC) = some false)
    (y_oNPNo : PySem.W.kitOne K (.ref xNP) (.ref xNo) = some false)
    (y_oNPNT : PySem.W.kitOne K (.ref xNP) (.ref xNT) = some false)
    (y_oNPNK : PySem.W.kitOne K (.ref xNP) (.ref xNK) = some false)
    (y_vNP : PySem.W.kitOne K (.ref xNP) (.type "ValueError") = some true)
    : ∃ fd : FuncData, (∀ (s : Shared) (v : Value), BindsTo s fd ⟨[v], []⟩ [("_law_script", v)]) ∧ ∀ base : Heap, K.In base → base.Ns mainGlobals mg → FnOk l.prog w K mg base CX0 8 fa fd ["_law_script"] (spLaw K) := by
  have e := hfa.symm.trans (PySem.W.mg_of X G aLaw)
  cases e
  have FW := fun_mk (st := sWhole) lW c_W kW
  have bW := FW.binds (ps := ["thing"]) fun _ _ _ _ _ _ us hl => by obtain ⟨u0, e⟩ := lenL1 hl; subst e; rfl
  have gW := PySem.W.mg_of X G aW
  have FB := fun_mk (st := sBounds) lB c_B kB
  have bB := FB.binds (ps := ["word"]) fun _ _ _ _ _ _ us hl => by obtain ⟨u0, e⟩ := lenL1 hl; subst e; rfl
  have gB := PySem.W.mg_of X G aB
  have FS := fun_mk (st := sIsStep) lS c_S kS
  have bS := FS.binds (ps := ["told"]) fun _ _ _ _ _ _ us hl => by obtain ⟨u0, e⟩ := lenL1 hl; subst e; rfl
  have gS := PySem.W.mg_of X G aS
  have FO := fun_mk (st := sStepOf) lO c_O kO
  have bO := FO.binds (ps := ["told"]) fun _ _ _ _ _ _ us hl => by obtain ⟨u0, e⟩ := lenL1 hl; subst e; rfl
  have gO := PySem.W.mg_of X G aO
  have FI := fun_mk (st := sInit) lI c_I kI
  have bI := FI.binds (ps := ["self", "told"]) fun _ _ _ _ _ _ us hl => by obtain ⟨u0, u1, e⟩ := lenL2 hl; subst e; rfl
  have FPut := fun_mk (st := sPutI) lPut c_Put kPut
  have bPut := FPut.binds (ps := ["self", "told"]) fun _ _ _ _ _ _ us hl => by obtain ⟨u0, u1, e⟩ := lenL2 hl; subst e; rfl
  have FAdd := fun_mk (st := sAddI) lAdd c_Add kAdd
  have bAdd := FAdd.binds (ps := ["self", "told"]) fun _ _ _ _ _ _ us hl => by obtain ⟨u0, u1, e⟩ := lenL2 hl; subst e; rfl
  have FSet := fun_mk (st := sSetI) lSet c_Set kSet
  have bSet := FSet.binds (ps := ["self", "told"]) fun _ _ _ _ _ _ us hl => by obtain ⟨u0, u1, e⟩ := lenL2 hl; subst e; rfl
  have FLook := fun_mk (st := sLookI) lLook c_Look kLook
  have bLook := FLook.binds (ps := ["self", "told"]) fun _ _ _ _ _ _ us hl => by obtain ⟨u0, u1, e⟩ := lenL2 hl; subst e; rfl
  have FSwap := fun_mk (st := sSwapI) lSwap c_Swap kSwap
  have bSwap := FSwap.binds (ps := ["self", "told"]) fun _ _ _ _ _ _ us hl => by obtain ⟨u0, u1, e⟩ := lenL2 hl; subst e; rfl
  have FSkip := fun_mk (st := sSkipI) lSkip c_Skip kSkip
  have bSkip := FSkip.binds (ps := ["self", "told"]) fun _ _ _ _ _ _ us hl => by obtain ⟨u0, u1, e⟩ := lenL2 hl; subst e; rfl
  have FNPI := fun_mk (st := sNPI) lNPI c_NPI kNPI
  have bNPI := FNPI.binds (ps := ["self", "clerk", "place"]) fun _ _ _ _ _ _ us hl => by obtain ⟨u0, u1, u2, e⟩ := lenL3 hl; subst e; rfl
  have FHC := fun_mk (st := sHas) lHC c_HC kHC
  have bHC := FHC.binds (ps := ["program"]) fun _ _ _ _ _ _ us hl => by obtain ⟨u0, e⟩ := lenL1 hl; subst e; rfl
  have gHC := PySem.W.mg_of X G aHC
  have FFI := fun_mk (st := sFits) lFI c_FI kFI
  have bFI := FFI.binds (ps := ["told", "place", "length"]) fun _ _ _ _ _ _ us hl => by obtain ⟨u0, u1, u2, e⟩ := lenL3 hl; subst e; rfl
  have gFI := PySem.W.mg_of X G aFI
  have FLO := fun_mk (st := sLookOver) lLO c_LO kLO
  have bLO := FLO.binds (ps := ["program"]) fun _ _ _ _ _ _ us hl => by obtain ⟨u0, e⟩ := lenL1 hl; subst e; rfl
  have gLO := PySem.W.mg_of X G aLO
  have FCA := fun_mk (st := sCellAt) lCA c_CA kCA
  have bCA := FCA.binds (ps := ["_law_script", "_law_k"]) fun _ _ _ _ _ _ us hl => by obtain ⟨u0, u1, e⟩ := lenL2 hl; subst e; rfl
  have gCA := PySem.W.mg_of X G aCA
  have FMI := fun_mk (st := sMixed) lMI c_MI kMI
  have bMI := FMI.binds (ps := ["_law_cell", "_law_k"]) fun _ _ _ _ _ _ us hl => by obtain ⟨u0, u1, e⟩ := lenL2 hl; subst e; rfl
  have gMI := PySem.W.mg_of X G aMI
  have FLS := fun_mk (st := sLStep) lLS c_LS kLS
  have bLS := FLS.binds (ps := ["_law_draw", "_law_cell"]) fun _ _ _ _ _ _ us hl => by obtain ⟨u0, u1, e⟩ := lenL2 hl; subst e; rfl
  have gLS := PySem.W.mg_of X G aLS
  have FLN := fun_mk (st := sLNone) lLN c_LN kLN
  have bLN := FLN.binds (ps := ["_law_draw", "_law_cell"]) fun _ _ _ _ _ _ us hl => by obtain ⟨u0, u1, e⟩ := lenL2 hl; subst e; rfl
  have gLN := PySem.W.mg_of X G aLN
  have FIN := fun_mk (st := sIsNone) lIN c_IN kIN
  have bIN := FIN.binds (ps := ["_law_told"]) fun _ _ _ _ _ _ us hl => by obtain ⟨u0, e⟩ := lenL1 hl; subst e; rfl
  have gIN := PySem.W.mg_of X G aIN
  have FPA := fun_mk (st := sParts) lPA c_PA kPA
  have bPA := FPA.binds (ps := ["_law_script"]) fun _ _ _ _ _ _ us hl => by obtain ⟨u0, e⟩ := lenL1 hl; subst e; rfl
  have gPA := PySem.W.mg_of X G aPA
  have FCH := fun_mk (st := sChanged) lCH c_CH kCH
  have bCH := FCH.binds (ps := ["_law_parts_here", "_law_cell", "_law_k"]) fun _ _ _ _ _ _ us hl => by obtain ⟨u0, u1, u2, e⟩ := lenL3 hl; subst e; rfl
  have gCH := PySem.W.mg_of X G aCH
  have FDU := fun_mk (st := sDue) lDU c_DU kDU
  have bDU := FDU.binds (ps := ["_law_parts_here"]) fun _ _ _ _ _ _ us hl => by obtain ⟨u0, e⟩ := lenL1 hl; subst e; rfl
  have gDU := PySem.W.mg_of X G aDU
  have FWO := fun_mk (st := sWord) lWO c_WO kWO
  have bWO := FWO.binds (ps := ["_law_thing"]) fun _ _ _ _ _ _ us hl => by obtain ⟨u0, e⟩ := lenL1 hl; subst e; rfl
  have gWO := PySem.W.mg_of X G aWO
  have FLaw := fun_mk (st := sLaw) lLaw c_Law kLaw
  have gLaw := PySem.W.mg_of X G aLaw
  have gCStep := PySem.W.mg_of X G aCStep
  have clStep : Cls K cStep := ⟨pgStep, hdStep, poStep, saStep⟩
  have gCPut := PySem.W.mg_of X G aCPut
  have clPut : Cls K cPut := ⟨pgPut, hdPut, poPut, saPut⟩
  have gCAdd := PySem.W.mg_of X G aCAdd
  have clAdd : Cls K cAdd := ⟨pgAdd, hdAdd, poAdd, saAdd⟩
  have gCSet := PySem.W.mg_of X G aCSet
  have clSet : Cls K cSet := ⟨pgSet, hdSet, poSet, saSet⟩
  have gCLook := PySem.W.mg_of X G aCLook
  have clLook : Cls K cLook := ⟨pgLook, hdLook, poLook, saLook⟩
  have gCSwap := PySem.W.mg_of X G aCSwap
  have clSwap : Cls K cSwap := ⟨pgSwap, hdSwap, poSwap, saSwap⟩
  have gCSkip := PySem.W.mg_of X G aCSkip
  have clSkip : Cls K cSkip := ⟨pgSkip, hdSkip, poSkip, saSkip⟩
  have gCClear := PySem.W.mg_of X G aCClear
  have clClear : Cls K cClear := ⟨pgClear, hdClear, poClear, saClear⟩
  have MPut : Mk K cPut fPut := ⟨mkPut, inPut, iPut, kcPut⟩
  have MAdd : Mk K cAdd fAdd := ⟨mkAdd, inAdd, iAdd, kcAdd⟩
  have MSet : Mk K cSet fSet := ⟨mkSet, inSet, iSet, kcSet⟩
  have MLook : Mk K cLook fLook := ⟨mkLook, inLook, iLook, kcLook⟩
  have MSwap : Mk K cSwap fSwap := ⟨mkSwap, inSwap, iSwap, kcSwap⟩
  have MSkip : Mk K cSkip fSkip := ⟨mkSkip, inSkip, iSkip, kcSkip⟩
  have MClear : Mk K cClear fI := ⟨mkClear, inClear, iI, kcClear⟩
  have cfStep___init__ : ClsFn K cStep "__init__" fI := ⟨spStep, rdStep, fcStep___init__, kI⟩
  have zz_isinstance := PySem.W.mg_none_of X G z_isinstance
  have zz_int := PySem.W.mg_none_of X G z_int
  have zz_bool := PySem.W.mg_none_of X G z_bool
  have zz_str := PySem.W.mg_none_of X G z_str
  have zz_tuple := PySem.W.mg_none_of X G z_tuple
  have zz_len := PySem.W.mg_none_of X G z_len
  have zz_all := PySem.W.mg_none_of X G z_all
  have zz_zip := PySem.W.mg_none_of X G z_zip
  have zz_enumerate := PySem.W.mg_none_of X G z_enumerate
  have zz_range := PySem.W.mg_none_of X G z_range
  have zz_list := PySem.W.mg_none_of X G z_list
  have zz_ValueError := PySem.W.mg_none_of X G z_ValueError
  have vv_TOP : ∃ u, mg "TOP" = some u ∧ RelV (.int TOPi) u := ⟨_, PySem.W.mg_of X G v_TOP, _, rfl⟩
  have vv_NAMES : ∃ u, mg "NAMES" = some u ∧ RelV (.int 12) u := ⟨_, PySem.W.mg_of X G v_NAMES, _, rfl⟩
  have vv_REGISTERS : ∃ u, mg "REGISTERS" = some u ∧ RelV (.int 4) u := ⟨_, PySem.W.mg_of X G v_REGISTERS, _, rfl⟩
  have vv_LONGEST : ∃ u, mg "LONGEST" = some u ∧ RelV (.int 120) u := ⟨_, PySem.W.mg_of X G v_LONGEST, _, rfl⟩
  have vv_CLERKS : ∃ u, mg "CLERKS" = some u ∧ RelV (.int 4) u := ⟨_, PySem.W.mg_of X G v_CLERKS, _, rfl⟩
  have xg_Er := PySem.W.mg_of X G xa_Er
  have xg_No := PySem.W.mg_of X G xa_No
  have XNo : XFacts K xNo xEr := ⟨⟨xe_No, xk_No⟩, xs_No, xb_No, xt_No, xv_No⟩
  have xg_NC := PySem.W.mg_of X G xa_NC
  have xg_NP := PySem.W.mg_of X G xa_NP
  have xg_NK := PySem.W.mg_of X G xa_NK
  have xg_NT := PySem.W.mg_of X G xa_NT
  have bl : Bl mg := ⟨zz_isinstance, zz_int, zz_bool, zz_str, zz_tuple, zz_len, zz_all, zz_zip⟩
  have cn : Cn mg := ⟨vv_TOP, vv_NAMES, vv_REGISTERS, vv_LONGEST⟩
  have T1 : StepsT K mg ⟨fW, fB, fS, fO, fI, fPut, fAdd, fSet, fLook, fSwap, fSkip, cStep, cPut, cAdd, cSet, cLook, cSwap, cClear, cSkip, _, _, _, _, _, _, _, _, _, _, _⟩ :=
    ⟨bl, cn, FW, bW, gW, FB, bB, gB, FS, bS, gS, FO, bO, gO, ⟨FI, bI, cfStep___init__, gCStep, zz_tuple⟩, clClear, nClear_parts, MClear, gCClear,
     clPut, nPut_parts, nPut_reg, nPut_number, MPut, gCPut, FPut, bPut,
     clAdd, nAdd_parts, nAdd_reg, nAdd_other, MAdd, gCAdd, FAdd, bAdd,
     clSet, nSet_parts, nSet_name, nSet_reg, MSet, gCSet, FSet, bSet,
     clLook, nLook_parts, nLook_reg, nLook_name, MLook, gCLook, FLook, bLook,
     clSwap, nSwap_parts, nSwap_reg, nSwap_name, MSwap, gCSwap, FSwap, bSwap,
     clSkip, nSkip_parts, nSkip_reg, nSkip_place, MSkip, gCSkip, FSkip, bSkip⟩
  have xf : XF K xNP := ⟨y_ps, by
    cases e : PySem.W.clsIn K xNP with
    | none => rw [e] at y_pc; cases y_pc
    | some cd =>
      rw [e] at y_pc
      have z : (onlyExc cd.mro && cd.hasDict) = true := y_pc
      rw [Bool.and_eq_true] at z
      exact ⟨cd, rfl, z.1, z.2⟩, y_gaNP, y_gnNP, y_bxNP⟩
  have xwNC : XW K xNC xEr xNP xNC xNo xNT xNK false true := ⟨⟨y_gaNC, y_gnNC, y_bxNC, y_khNC, y_kcNC, y_gt, y_tk, y_kmNC⟩, y_keNC, y_oNCNP, y_oNCNC, y_oNCNo, y_oNCNT, y_oNCNK, y_vNC⟩
  have xwNP : XW K xNP xEr xNP xNC xNo xNT xNK true false := ⟨⟨y_gaNP, y_gnNP, y_bxNP, y_khNP, y_kcNP, y_gt, y_tk, y_kmNP⟩, y_keNP, y_oNPNP, y_oNPNC, y_oNPNo, y_oNPNT, y_oNPNK, y_vNP⟩
  exact ⟨PySem.W.fnOf "law" "law" (defArgs sLaw) (defBody sLaw) (defScope sLaw) .none kVLaw dcLaw pmLaw anLaw cdLaw ctLaw, fun s v => .of_eq rfl, fun base h1 h2 => ok_law0 FLaw bl zz_range zz_list (ok_cell FCA bl.len) kCA bCA gCA (ok_Parts FPA zz_range (ok_cell FCA bl.len) kCA bCA gCA (ok_mix FMI) kMI bMI gMI (ok_LS FLS) kLS bLS gLS) kPA bPA gPA (ok_Ch FCH bl.len (ok_mix FMI) kMI bMI gMI (ok_LN FLN bl.len) kLN bLN gLN) kCH bCH gCH (ok_Due FDU bl.len zz_range (ok_IsNone FIN bl zz_range) kIN bIN gIN) kDU bDU gDU (ok_Word FWO bl.isi zz_ValueError (ok_Look FLO bl zz_enumerate (ok_Has FHC bl vv_CLERKS) kHC bHC gHC (ok_Fits FFI T1 ⟨y_gt, y_tk, ⟨y_clPut, y_mrPut, y_onPut⟩, ⟨y_clAdd, y_mrAdd, y_onAdd⟩, ⟨y_clSet, y_mrSet, y_onSet⟩, ⟨y_clLook, y_mrLook, y_onLook⟩, ⟨y_clSwap, y_mrSwap, y_onSwap⟩, ⟨y_clClear, y_mrClear, y_onClear⟩, ⟨y_clSkip, y_mrSkip, y_onSkip⟩⟩ XNo xg_No) kFI bFI gFI ⟨y_ce, kc_NC⟩ xg_NC ⟨y_pe, aNPI, iNPI, kc_NP⟩ (ok_NP FNPI xf y_n1 y_n2) bNPI xg_NP) kLO bLO gLO xg_Er y_be xg_NP xg_NC xg_No xg_NT xg_NK xwNC xwNP xf y_n1 y_n2) kWO bWO gWO⟩
theorem facts {l : PySem.W.OpenLaw} {w : World} {K : PySem.W.Frag} {h : Heap} {mg : Str → Option Value} {fa : Addr} (E : (seen K, seenF K) = (true, goodF)) (X : K.In h) (G : h.Ns mainGlobals mg) (hfa : mg "law" = some (.ref fa)) :
    ∃ fd : FuncData, (∀ (s : Shared) (v : Value), BindsTo s fd ⟨[v], []⟩ [("_law_script", v)]) ∧ ∀ base : Heap, K.In base → base.Ns mainGlobals mg → FnOk l.prog w K mg base CX0 8 fa fd ["_law_script"] (spLaw K) := by
  obtain ⟨hb, hl⟩ := Prod.mk.inj E
  unfold seen at hb
  unfold seenF goodF at hl
  obtain ⟨g0, hb⟩ := HT.andB hb
  obtain ⟨g1, hb⟩ := HT.andB hb
  obtain ⟨g2, hb⟩ := HT.andB hb
  obtain ⟨g3, hb⟩ := HT.andB hb
  obtain ⟨g4, hb⟩ := HT.andB hb
  obtain ⟨g5, hb⟩ := HT.andB hb
  obtain ⟨g6, hb⟩ := HT.andB hb
  obtain ⟨g7, hb⟩ := HT.andB hb
  obtain ⟨g8, hb⟩ := HT.andB hb
  obtain ⟨g9, hb⟩ := HT.andB hb
  obtain ⟨g10, hb⟩ := HT.andB hb
  obtain ⟨g11, hb⟩ := HT.andB hb
  obtain ⟨g12, hb⟩ := HT.andB hb
  obtain ⟨g13, hb⟩ := HT.andB hb
  obtain ⟨g14, hb⟩ := HT.andB hb
  obtain ⟨g15, hb⟩ := HT.andB hb
  obtain ⟨g16, hb⟩ := HT.andB hb
  obtain ⟨g17, hb⟩ := HT.andB hb
  obtain ⟨g18, hb⟩ := HT.andB hb
  obtain ⟨g19, hb⟩ := HT.andB hb
  obtain ⟨g20, hb⟩ := HT.andB hb
  obtain ⟨g21, hb⟩ := HT.andB hb
  obtain ⟨g22, hb⟩ := HT.andB hb
  obtain ⟨g23, hb⟩ := HT.andB hb
  obtain ⟨g24, hb⟩ := HT.andB hb
  obtain ⟨g25, hb⟩ := HT.andB hb
  unfold seen_0 at g0
  obtain ⟨xa_Er, g0⟩ := HT.andB g0
  replace xa_Er := HT.rf_eq xa_Er
  obtain ⟨xa_No, g0⟩ := HT.andB g0
  replace xa_No := HT.rf_eq xa_No
  obtain ⟨xa_NC, g0⟩ := HT.andB g0
  replace xa_NC := HT.rf_eq xa_NC
  obtain ⟨xa_NP, g0⟩ := HT.andB g0
  replace xa_NP := HT.rf_eq xa_NP
  obtain ⟨xa_NK, g0⟩ := HT.andB g0
  replace xa_NK := HT.rf_eq xa_NK
  obtain ⟨xa_NT, g0⟩ := HT.andB g0
  replace xa_NT := HT.rf_eq xa_NT
  obtain ⟨aCStep, g0⟩ := HT.andB g0
  replace aCStep := HT.rf_eq aCStep
  obtain ⟨aCPut, g0⟩ := HT.andB g0
  replace aCPut := HT.rf_eq aCPut
  obtain ⟨aCAdd, g0⟩ := HT.andB g0
  replace aCAdd := HT.rf_eq aCAdd
  obtain ⟨aCSet, g0⟩ := HT.andB g0
  replace aCSet := HT.rf_eq aCSet
  unfold seen_1 at g1
  obtain ⟨aCLook, g1⟩ := HT.andB g1
  replace aCLook := HT.rf_eq aCLook
  obtain ⟨aCSwap, g1⟩ := HT.andB g1
  replace aCSwap := HT.rf_eq aCSwap
  obtain ⟨aCSkip, g1⟩ := HT.andB g1
  replace aCSkip := HT.rf_eq aCSkip
  obtain ⟨aCClear, g1⟩ := HT.andB g1
  replace aCClear := HT.rf_eq aCClear
  obtain ⟨aW, g1⟩ := HT.andB g1
  replace aW := HT.rf_eq aW
  obtain ⟨c_W, g1⟩ := HT.andB g1
  obtain ⟨kW, g1⟩ := HT.andB g1
  obtain ⟨aB, g1⟩ := HT.andB g1
  replace aB := HT.rf_eq aB
  obtain ⟨c_B, g1⟩ := HT.andB g1
  obtain ⟨kB, g1⟩ := HT.andB g1
  unfold seen_2 at g2
  obtain ⟨aS, g2⟩ := HT.andB g2
  replace aS := HT.rf_eq aS
  obtain ⟨c_S, g2⟩ := HT.andB g2
  obtain ⟨kS, g2⟩ := HT.andB g2
  obtain ⟨aO, g2⟩ := HT.andB g2
  replace aO := HT.rf_eq aO
  obtain ⟨c_O, g2⟩ := HT.andB g2
  obtain ⟨kO, g2⟩ := HT.andB g2
  obtain ⟨aI, g2⟩ := HT.andB g2
  replace aI := HT.rf_eq aI
  obtain ⟨c_I, g2⟩ := HT.andB g2
  obtain ⟨kI, g2⟩ := HT.andB g2
  obtain ⟨iI, g2⟩ := HT.andB g2
  unfold seen_3 at g3
  obtain ⟨aPut, g3⟩ := HT.andB g3
  replace aPut := HT.rf_eq aPut
  obtain ⟨c_Put, g3⟩ := HT.andB g3
  obtain ⟨kPut, g3⟩ := HT.andB g3
  obtain ⟨iPut, g3⟩ := HT.andB g3
  obtain ⟨aAdd, g3⟩ := HT.andB g3
  replace aAdd := HT.rf_eq aAdd
  obtain ⟨c_Add, g3⟩ := HT.andB g3
  obtain ⟨kAdd, g3⟩ := HT.andB g3
  obtain ⟨iAdd, g3⟩ := HT.andB g3
  obtain ⟨aSet, g3⟩ := HT.andB g3
  replace aSet := HT.rf_eq aSet
  obtain ⟨c_Set, g3⟩ := HT.andB g3
  unfold seen_4 at g4
  obtain ⟨kSet, g4⟩ := HT.andB g4
  obtain ⟨iSet, g4⟩ := HT.andB g4
  obtain ⟨aLook, g4⟩ := HT.andB g4
  replace aLook := HT.rf_eq aLook
  obtain ⟨c_Look, g4⟩ := HT.andB g4
  obtain ⟨kLook, g4⟩ := HT.andB g4
  obtain ⟨iLook, g4⟩ := HT.andB g4
  obtain ⟨aSwap, g4⟩ := HT.andB g4
  replace aSwap := HT.rf_eq aSwap
  obtain ⟨c_Swap, g4⟩ := HT.andB g4
  obtain ⟨kSwap, g4⟩ := HT.andB g4
  obtain ⟨iSwap, g4⟩ := HT.andB g4
  unfold seen_5 at g5
  obtain ⟨aSkip, g5⟩ := HT.andB g5
  replace aSkip := HT.rf_eq aSkip
  obtain ⟨c_Skip, g5⟩ := HT.andB g5
  obtain ⟨kSkip, g5⟩ := HT.andB g5
  obtain ⟨iSkip, g5⟩ := HT.andB g5
  obtain ⟨aNPI, g5⟩ := HT.andB g5
  replace aNPI := HT.rf_eq aNPI
  obtain ⟨c_NPI, g5⟩ := HT.andB g5
  obtain ⟨kNPI, g5⟩ := HT.andB g5
  obtain ⟨iNPI, g5⟩ := HT.andB g5
  obtain ⟨aHC, g5⟩ := HT.andB g5
  replace aHC := HT.rf_eq aHC
  obtain ⟨c_HC, g5⟩ := HT.andB g5
  unfold seen_6 at g6
  obtain ⟨kHC, g6⟩ := HT.andB g6
  obtain ⟨aFI, g6⟩ := HT.andB g6
  replace aFI := HT.rf_eq aFI
  obtain ⟨c_FI, g6⟩ := HT.andB g6
  obtain ⟨kFI, g6⟩ := HT.andB g6
  obtain ⟨aLO, g6⟩ := HT.andB g6
  replace aLO := HT.rf_eq aLO
  obtain ⟨c_LO, g6⟩ := HT.andB g6
  obtain ⟨kLO, g6⟩ := HT.andB g6
  obtain ⟨aCA, g6⟩ := HT.andB g6
  replace aCA := HT.rf_eq aCA
  obtain ⟨c_CA, g6⟩ := HT.andB g6
  obtain ⟨kCA, g6⟩ := HT.andB g6
  unfold seen_7 at g7
  obtain ⟨aMI, g7⟩ := HT.andB g7
  replace aMI := HT.rf_eq aMI
  obtain ⟨c_MI, g7⟩ := HT.andB g7
  obtain ⟨kMI, g7⟩ := HT.andB g7
  obtain ⟨aLS, g7⟩ := HT.andB g7
  replace aLS := HT.rf_eq aLS
  obtain ⟨c_LS, g7⟩ := HT.andB g7
  obtain ⟨kLS, g7⟩ := HT.andB g7
  obtain ⟨aLN, g7⟩ := HT.andB g7
  replace aLN := HT.rf_eq aLN
  obtain ⟨c_LN, g7⟩ := HT.andB g7
  obtain ⟨kLN, g7⟩ := HT.andB g7
  obtain ⟨aIN, g7⟩ := HT.andB g7
  replace aIN := HT.rf_eq aIN
  unfold seen_8 at g8
  obtain ⟨c_IN, g8⟩ := HT.andB g8
  obtain ⟨kIN, g8⟩ := HT.andB g8
  obtain ⟨aPA, g8⟩ := HT.andB g8
  replace aPA := HT.rf_eq aPA
  obtain ⟨c_PA, g8⟩ := HT.andB g8
  obtain ⟨kPA, g8⟩ := HT.andB g8
  obtain ⟨aCH, g8⟩ := HT.andB g8
  replace aCH := HT.rf_eq aCH
  obtain ⟨c_CH, g8⟩ := HT.andB g8
  obtain ⟨kCH, g8⟩ := HT.andB g8
  obtain ⟨aDU, g8⟩ := HT.andB g8
  replace aDU := HT.rf_eq aDU
  obtain ⟨c_DU, g8⟩ := HT.andB g8
  unfold seen_9 at g9
  obtain ⟨kDU, g9⟩ := HT.andB g9
  obtain ⟨aWO, g9⟩ := HT.andB g9
  replace aWO := HT.rf_eq aWO
  obtain ⟨c_WO, g9⟩ := HT.andB g9
  obtain ⟨kWO, g9⟩ := HT.andB g9
  obtain ⟨aLaw, g9⟩ := HT.andB g9
  replace aLaw := HT.rf_eq aLaw
  obtain ⟨c_Law, g9⟩ := HT.andB g9
  obtain ⟨kLaw, g9⟩ := HT.andB g9
  obtain ⟨pgStep, g9⟩ := HT.andB g9
  obtain ⟨hdStep, g9⟩ := HT.andB g9
  obtain ⟨poStep, g9⟩ := HT.andB g9
  unfold seen_10 at g10
  obtain ⟨saStep, g10⟩ := HT.andD g10
  obtain ⟨pgPut, g10⟩ := HT.andB g10
  obtain ⟨hdPut, g10⟩ := HT.andB g10
  obtain ⟨poPut, g10⟩ := HT.andB g10
  obtain ⟨saPut, g10⟩ := HT.andD g10
  obtain ⟨mkPut, g10⟩ := HT.andB g10
  obtain ⟨kcPut, g10⟩ := HT.andB g10
  obtain ⟨nPut_parts, g10⟩ := HT.andD g10
  obtain ⟨nPut_reg, g10⟩ := HT.andD g10
  obtain ⟨nPut_number, g10⟩ := HT.andD g10
  unfold seen_11 at g11
  obtain ⟨pgAdd, g11⟩ := HT.andB g11
  obtain ⟨hdAdd, g11⟩ := HT.andB g11
  obtain ⟨poAdd, g11⟩ := HT.andB g11
  obtain ⟨saAdd, g11⟩ := HT.andD g11
  obtain ⟨mkAdd, g11⟩ := HT.andB g11
  obtain ⟨kcAdd, g11⟩ := HT.andB g11
  obtain ⟨nAdd_parts, g11⟩ := HT.andD g11
  obtain ⟨nAdd_reg, g11⟩ := HT.andD g11
  obtain ⟨nAdd_other, g11⟩ := HT.andD g11
  obtain ⟨pgSet, g11⟩ := HT.andB g11
  unfold seen_12 at g12
  obtain ⟨hdSet, g12⟩ := HT.andB g12
  obtain ⟨poSet, g12⟩ := HT.andB g12
  obtain ⟨saSet, g12⟩ := HT.andD g12
  obtain ⟨mkSet, g12⟩ := HT.andB g12
  obtain ⟨kcSet, g12⟩ := HT.andB g12
  obtain ⟨nSet_parts, g12⟩ := HT.andD g12
  obtain ⟨nSet_name, g12⟩ := HT.andD g12
  obtain ⟨nSet_reg, g12⟩ := HT.andD g12
  obtain ⟨pgLook, g12⟩ := HT.andB g12
  obtain ⟨hdLook, g12⟩ := HT.andB g12
  unfold seen_13 at g13
  obtain ⟨poLook, g13⟩ := HT.andB g13
  obtain ⟨saLook, g13⟩ := HT.andD g13
  obtain ⟨mkLook, g13⟩ := HT.andB g13
  obtain ⟨kcLook, g13⟩ := HT.andB g13
  obtain ⟨nLook_parts, g13⟩ := HT.andD g13
  obtain ⟨nLook_reg, g13⟩ := HT.andD g13
  obtain ⟨nLook_name, g13⟩ := HT.andD g13
  obtain ⟨pgSwap, g13⟩ := HT.andB g13
  obtain ⟨hdSwap, g13⟩ := HT.andB g13
  obtain ⟨poSwap, g13⟩ := HT.andB g13
  unfold seen_14 at g14
  obtain ⟨saSwap, g14⟩ := HT.andD g14
  obtain ⟨mkSwap, g14⟩ := HT.andB g14
  obtain ⟨kcSwap, g14⟩ := HT.andB g14
  obtain ⟨nSwap_parts, g14⟩ := HT.andD g14
  obtain ⟨nSwap_reg, g14⟩ := HT.andD g14
  obtain ⟨nSwap_name, g14⟩ := HT.andD g14
  obtain ⟨pgSkip, g14⟩ := HT.andB g14
  obtain ⟨hdSkip, g14⟩ := HT.andB g14
  obtain ⟨poSkip, g14⟩ := HT.andB g14
  obtain ⟨saSkip, g14⟩ := HT.andD g14
  unfold seen_15 at g15
  obtain ⟨mkSkip, g15⟩ := HT.andB g15
  obtain ⟨kcSkip, g15⟩ := HT.andB g15
  obtain ⟨nSkip_parts, g15⟩ := HT.andD g15
  obtain ⟨nSkip_reg, g15⟩ := HT.andD g15
  obtain ⟨nSkip_place, g15⟩ := HT.andD g15
  obtain ⟨pgClear, g15⟩ := HT.andB g15
  obtain ⟨hdClear, g15⟩ := HT.andB g15
  obtain ⟨poClear, g15⟩ := HT.andB g15
  obtain ⟨saClear, g15⟩ := HT.andD g15
  obtain ⟨mkClear, g15⟩ := HT.andB g15
  unfold seen_16 at g16
  obtain ⟨kcClear, g16⟩ := HT.andB g16
  obtain ⟨nClear_parts, g16⟩ := HT.andD g16
  obtain ⟨inPut, g16⟩ := HT.andD g16
  obtain ⟨inAdd, g16⟩ := HT.andD g16
  obtain ⟨inSet, g16⟩ := HT.andD g16
  obtain ⟨inLook, g16⟩ := HT.andD g16
  obtain ⟨inSwap, g16⟩ := HT.andD g16
  obtain ⟨inSkip, g16⟩ := HT.andD g16
  obtain ⟨inClear, g16⟩ := HT.andD g16
  obtain ⟨spStep, g16⟩ := HT.andD g16
  unfold seen_17 at g17
  obtain ⟨rdStep, g17⟩ := HT.andB g17
  obtain ⟨fcStep___init__, g17⟩ := HT.andB g17
  replace fcStep___init__ := HT.isV_eq fcStep___init__
  obtain ⟨z_isinstance, g17⟩ := HT.andD g17
  obtain ⟨z_int, g17⟩ := HT.andD g17
  obtain ⟨z_bool, g17⟩ := HT.andD g17
  obtain ⟨z_str, g17⟩ := HT.andD g17
  obtain ⟨z_tuple, g17⟩ := HT.andD g17
  obtain ⟨z_len, g17⟩ := HT.andD g17
  obtain ⟨z_all, g17⟩ := HT.andD g17
  obtain ⟨z_zip, g17⟩ := HT.andD g17
  unfold seen_18 at g18
  obtain ⟨z_enumerate, g18⟩ := HT.andD g18
  obtain ⟨z_range, g18⟩ := HT.andD g18
  obtain ⟨z_list, g18⟩ := HT.andD g18
  obtain ⟨z_ValueError, g18⟩ := HT.andD g18
  obtain ⟨v_TOP, g18⟩ := HT.andB g18
  obtain ⟨t_TOP, v_TOP⟩ := HT.isI_eq v_TOP
  obtain ⟨v_NAMES, g18⟩ := HT.andB g18
  obtain ⟨t_NAMES, v_NAMES⟩ := HT.isI_eq v_NAMES
  obtain ⟨v_REGISTERS, g18⟩ := HT.andB g18
  obtain ⟨t_REGISTERS, v_REGISTERS⟩ := HT.isI_eq v_REGISTERS
  obtain ⟨v_LONGEST, g18⟩ := HT.andB g18
  obtain ⟨t_LONGEST, v_LONGEST⟩ := HT.isI_eq v_LONGEST
  obtain ⟨v_CLERKS, g18⟩ := HT.andB g18
  obtain ⟨t_CLERKS, v_CLERKS⟩ := HT.isI_eq v_CLERKS
  obtain ⟨xe_No, g18⟩ := HT.andB g18
  unfold seen_19 at g19
  obtain ⟨xk_No, g19⟩ := HT.andB g19
  obtain ⟨xs_No, g19⟩ := HT.andD g19
  obtain ⟨xb_No, g19⟩ := HT.andD g19
  obtain ⟨xt_No, g19⟩ := HT.andD g19
  obtain ⟨xv_No, g19⟩ := HT.andD g19
  obtain ⟨y_gt, g19⟩ := HT.andD g19
  obtain ⟨y_tk, g19⟩ := HT.andD g19
  obtain ⟨y_be, g19⟩ := HT.andD g19
  obtain ⟨y_ce, g19⟩ := HT.andB g19
  obtain ⟨kc_NC, g19⟩ := HT.andB g19
  unfold seen_20 at g20
  obtain ⟨y_pe, g20⟩ := HT.andB g20
  obtain ⟨kc_NP, g20⟩ := HT.andB g20
  obtain ⟨y_ps, g20⟩ := HT.andD g20
  obtain ⟨y_pc, g20⟩ := HT.andB g20
  obtain ⟨y_n1, g20⟩ := HT.andD g20
  obtain ⟨y_n2, g20⟩ := HT.andD g20
  obtain ⟨y_clPut, g20⟩ := HT.andD g20
  obtain ⟨y_mrPut, g20⟩ := HT.andD g20
  obtain ⟨y_onPut, g20⟩ := HT.andD g20
  obtain ⟨y_clAdd, g20⟩ := HT.andD g20
  unfold seen_21 at g21
  obtain ⟨y_mrAdd, g21⟩ := HT.andD g21
  obtain ⟨y_onAdd, g21⟩ := HT.andD g21
  obtain ⟨y_clSet, g21⟩ := HT.andD g21
  obtain ⟨y_mrSet, g21⟩ := HT.andD g21
  obtain ⟨y_onSet, g21⟩ := HT.andD g21
  obtain ⟨y_clLook, g21⟩ := HT.andD g21
  obtain ⟨y_mrLook, g21⟩ := HT.andD g21
  obtain ⟨y_onLook, g21⟩ := HT.andD g21
  obtain ⟨y_clSwap, g21⟩ := HT.andD g21
  obtain ⟨y_mrSwap, g21⟩ := HT.andD g21
  unfold seen_22 at g22
  obtain ⟨y_onSwap, g22⟩ := HT.andD g22
  obtain ⟨y_clSkip, g22⟩ := HT.andD g22
  obtain ⟨y_mrSkip, g22⟩ := HT.andD g22
  obtain ⟨y_onSkip, g22⟩ := HT.andD g22
  obtain ⟨y_clClear, g22⟩ := HT.andD g22
  obtain ⟨y_mrClear, g22⟩ := HT.andD g22
  obtain ⟨y_onClear, g22⟩ := HT.andD g22
  obtain ⟨y_gaNC, g22⟩ := HT.andD g22
  obtain ⟨y_gnNC, g22⟩ := HT.andD g22
  obtain ⟨y_bxNC, g22⟩ := HT.andD g22
  unfold seen_23 at g23
  obtain ⟨y_khNC, g23⟩ := HT.andB g23
  obtain ⟨y_kcNC, g23⟩ := HT.andD g23
  obtain ⟨y_kmNC, g23⟩ := HT.andD g23
  obtain ⟨y_keNC, g23⟩ := HT.andD g23
  obtain ⟨y_oNCNP, g23⟩ := HT.andD g23
  obtain ⟨y_oNCNC, g23⟩ := HT.andD g23
  obtain ⟨y_oNCNo, g23⟩ := HT.andD g23
  obtain ⟨y_oNCNT, g23⟩ := HT.andD g23
  obtain ⟨y_oNCNK, g23⟩ := HT.andD g23
  obtain ⟨y_vNC, g23⟩ := HT.andD g23
  unfold seen_24 at g24
  obtain ⟨y_gaNP, g24⟩ := HT.andD g24
  obtain ⟨y_gnNP, g24⟩ := HT.andD g24
  obtain ⟨y_bxNP, g24⟩ := HT.andD g24
  obtain ⟨y_khNP, g24⟩ := HT.andB g24
  obtain ⟨y_kcNP, g24⟩ := HT.andD g24
  obtain ⟨y_kmNP, g24⟩ := HT.andD g24
  obtain ⟨y_keNP, g24⟩ := HT.andD g24
  obtain ⟨y_oNPNP, g24⟩ := HT.andD g24
  obtain ⟨y_oNPNC, g24⟩ := HT.andD g24
  obtain ⟨y_oNPNo, g24⟩ := HT.andD g24
  unfold seen_25 at g25
  obtain ⟨y_oNPNT, g25⟩ := HT.andD g25
  obtain ⟨y_oNPNK, g25⟩ := HT.andD g25
  obtain ⟨y_vNP, g25⟩ := HT.andD g25
  obtain ⟨lW, hl⟩ := List.cons.inj hl
  obtain ⟨ocW, odW, kVW, dcW, pmW, anW, cdW, ctW, slW, lW, c_W⟩ := HT.fn_of lW c_W
  obtain ⟨lB, hl⟩ := List.cons.inj hl
  obtain ⟨ocB, odB, kVB, dcB, pmB, anB, cdB, ctB, slB, lB, c_B⟩ := HT.fn_of lB c_B
  obtain ⟨lS, hl⟩ := List.cons.inj hl
  obtain ⟨ocS, odS, kVS, dcS, pmS, anS, cdS, ctS, slS, lS, c_S⟩ := HT.fn_of lS c_S
  obtain ⟨lO, hl⟩ := List.cons.inj hl
  obtain ⟨ocO, odO, kVO, dcO, pmO, anO, cdO, ctO, slO, lO, c_O⟩ := HT.fn_of lO c_O
  obtain ⟨lI, hl⟩ := List.cons.inj hl
  obtain ⟨ocI, odI, kVI, dcI, pmI, anI, cdI, ctI, slI, lI, c_I⟩ := HT.fn_of lI c_I
  obtain ⟨lPut, hl⟩ := List.cons.inj hl
  obtain ⟨ocPut, odPut, kVPut, dcPut, pmPut, anPut, cdPut, ctPut, slPut, lPut, c_Put⟩ := HT.fn_of lPut c_Put
  obtain ⟨lAdd, hl⟩ := List.cons.inj hl
  obtain ⟨ocAdd, odAdd, kVAdd, dcAdd, pmAdd, anAdd, cdAdd, ctAdd, slAdd, lAdd, c_Add⟩ := HT.fn_of lAdd c_Add
  obtain ⟨lSet, hl⟩ := List.cons.inj hl
  obtain ⟨ocSet, odSet, kVSet, dcSet, pmSet, anSet, cdSet, ctSet, slSet, lSet, c_Set⟩ := HT.fn_of lSet c_Set
  obtain ⟨lLook, hl⟩ := List.cons.inj hl
  obtain ⟨ocLook, odLook, kVLook, dcLook, pmLook, anLook, cdLook, ctLook, slLook, lLook, c_Look⟩ := HT.fn_of lLook c_Look
  obtain ⟨lSwap, hl⟩ := List.cons.inj hl
  obtain ⟨ocSwap, odSwap, kVSwap, dcSwap, pmSwap, anSwap, cdSwap, ctSwap, slSwap, lSwap, c_Swap⟩ := HT.fn_of lSwap c_Swap
  obtain ⟨lSkip, hl⟩ := List.cons.inj hl
  obtain ⟨ocSkip, odSkip, kVSkip, dcSkip, pmSkip, anSkip, cdSkip, ctSkip, slSkip, lSkip, c_Skip⟩ := HT.fn_of lSkip c_Skip
  obtain ⟨lNPI, hl⟩ := List.cons.inj hl
  obtain ⟨ocNPI, odNPI, kVNPI, dcNPI, pmNPI, anNPI, cdNPI, ctNPI, slNPI, lNPI, c_NPI⟩ := HT.fn_of lNPI c_NPI
  obtain ⟨lHC, hl⟩ := List.cons.inj hl
  obtain ⟨ocHC, odHC, kVHC, dcHC, pmHC, anHC, cdHC, ctHC, slHC, lHC, c_HC⟩ := HT.fn_of lHC c_HC
  obtain ⟨lFI, hl⟩ := List.cons.inj hl
  obtain ⟨ocFI, odFI, kVFI, dcFI, pmFI, anFI, cdFI, ctFI, slFI, lFI, c_FI⟩ := HT.fn_of lFI c_FI
  obtain ⟨lLO, hl⟩ := List.cons.inj hl
  obtain ⟨ocLO, odLO, kVLO, dcLO, pmLO, anLO, cdLO, ctLO, slLO, lLO, c_LO⟩ := HT.fn_of lLO c_LO
  obtain ⟨lCA, hl⟩ := List.cons.inj hl
  obtain ⟨ocCA, odCA, kVCA, dcCA, pmCA, anCA, cdCA, ctCA, slCA, lCA, c_CA⟩ := HT.fn_of lCA c_CA
  obtain ⟨lMI, hl⟩ := List.cons.inj hl
  obtain ⟨ocMI, odMI, kVMI, dcMI, pmMI, anMI, cdMI, ctMI, slMI, lMI, c_MI⟩ := HT.fn_of lMI c_MI
  obtain ⟨lLS, hl⟩ := List.cons.inj hl
  obtain ⟨ocLS, odLS, kVLS, dcLS, pmLS, anLS, cdLS, ctLS, slLS, lLS, c_LS⟩ := HT.fn_of lLS c_LS
  obtain ⟨lLN, hl⟩ := List.cons.inj hl
  obtain ⟨ocLN, odLN, kVLN, dcLN, pmLN, anLN, cdLN, ctLN, slLN, lLN, c_LN⟩ := HT.fn_of lLN c_LN
  obtain ⟨lIN, hl⟩ := List.cons.inj hl
  obtain ⟨ocIN, odIN, kVIN, dcIN, pmIN, anIN, cdIN, ctIN, slIN, lIN, c_IN⟩ := HT.fn_of lIN c_IN
  obtain ⟨lPA, hl⟩ := List.cons.inj hl
  obtain ⟨ocPA, odPA, kVPA, dcPA, pmPA, anPA, cdPA, ctPA, slPA, lPA, c_PA⟩ := HT.fn_of lPA c_PA
  obtain ⟨lCH, hl⟩ := List.cons.inj hl
  obtain ⟨ocCH, odCH, kVCH, dcCH, pmCH, anCH, cdCH, ctCH, slCH, lCH, c_CH⟩ := HT.fn_of lCH c_CH
  obtain ⟨lDU, hl⟩ := List.cons.inj hl
  obtain ⟨ocDU, odDU, kVDU, dcDU, pmDU, anDU, cdDU, ctDU, slDU, lDU, c_DU⟩ := HT.fn_of lDU c_DU
  obtain ⟨lWO, hl⟩ := List.cons.inj hl
  obtain ⟨ocWO, odWO, kVWO, dcWO, pmWO, anWO, cdWO, ctWO, slWO, lWO, c_WO⟩ := HT.fn_of lWO c_WO
  obtain ⟨lLaw, hl⟩ := List.cons.inj hl
  obtain ⟨ocLaw, odLaw, kVLaw, dcLaw, pmLaw, anLaw, cdLaw, ctLaw, slLaw, lLaw, c_Law⟩ := HT.fn_of lLaw c_Law
  exact all_mk X G hfa xa_Er xa_No xa_NC xa_NP xa_NK xa_NT aCStep aCPut aCAdd aCSet aCLook aCSwap aCSkip aCClear aW lW c_W kW aB lB c_B kB aS lS c_S kS aO lO c_O kO aI lI c_I kI iI aPut lPut c_Put kPut iPut aAdd lAdd c_Add kAdd iAdd aSet lSet c_Set kSet iSet aLook lLook c_Look kLook iLook aSwap lSwap c_Swap kSwap iSwap aSkip lSkip c_Skip kSkip iSkip aNPI lNPI c_NPI kNPI iNPI aHC lHC c_HC kHC aFI lFI c_FI kFI aLO lLO c_LO kLO aCA lCA c_CA kCA aMI lMI c_MI kMI aLS lLS c_LS kLS aLN lLN c_LN kLN aIN lIN c_IN kIN aPA lPA c_PA kPA aCH lCH c_CH kCH aDU lDU c_DU kDU aWO lWO c_WO kWO aLaw lLaw c_Law kLaw pgStep hdStep poStep saStep pgPut hdPut poPut saPut mkPut kcPut nPut_parts nPut_reg nPut_number pgAdd hdAdd poAdd saAdd mkAdd kcAdd nAdd_parts nAdd_reg nAdd_other pgSet hdSet poSet saSet mkSet kcSet nSet_parts nSet_name nSet_reg pgLook hdLook poLook saLook mkLook kcLook nLook_parts nLook_reg nLook_name pgSwap hdSwap poSwap saSwap mkSwap kcSwap nSwap_parts nSwap_reg nSwap_name pgSkip hdSkip poSkip saSkip mkSkip kcSkip nSkip_parts nSkip_reg nSkip_place pgClear hdClear poClear saClear mkClear kcClear nClear_parts inPut inAdd inSet inLook inSwap inSkip inClear spStep rdStep fcStep___init__ z_isinstance z_int z_bool z_str z_tuple z_len z_all z_zip z_enumerate z_range z_list z_ValueError v_TOP v_NAMES v_REGISTERS v_LONGEST v_CLERKS xe_No xk_No xs_No xb_No xt_No xv_No y_gt y_tk y_be y_ce kc_NC y_pe kc_NP y_ps y_pc y_n1 y_n2 y_clPut y_mrPut y_onPut y_clAdd y_mrAdd y_onAdd y_clSet y_mrSet y_onSet y_clLook y_mrLook y_onLook y_clSwap y_mrSwap y_onSwap y_clSkip y_mrSkip y_onSkip y_clClear y_mrClear y_onClear y_gaNC y_gnNC y_bxNC y_khNC y_kcNC y_kmNC y_keNC y_oNCNP y_oNCNC y_oNCNo y_oNCNT y_oNCNK y_vNC y_gaNP y_gnNP y_bxNP y_khNP y_kcNP y_kmNP y_keNP y_oNPNP y_oNPNC y_oNPNo y_oNPNT y_oNPNK y_vNP
theorem walk {l : PySem.W.OpenLaw} {q : Program} {loose : List Str} {XP : (Str → Option Value) → Heap → Prop} {d : DefRec} (hn : l.most = some 63) (hdf : d.params.defaults = []) (hdn : d.name = "law") :
    PySem.W.WalkO q loose XP (HT.kHook2 (fun K => (seen K, seenF K)) (true, goodF)).says l.row.toRowW d [] (fun f vs => PySem.call f vs) := by
  refine Att.attach_call hn hdf fun w s₀ s₁ mg mb fa o pm cd doc a vs ns G Y ho hd hcd hmg hobj hints hlen hg => ?_
  obtain ⟨K, KX, E⟩ := Y
  rw [hdn] at hmg
  obtain ⟨fd, hb, hF⟩ := facts (l := l) (w := w) E KX G.T.g hmg
  exact law_call KX G.T.g G.T.b G.T.builtins G.T.nolimit hg hobj hints (Nat.le_trans hlen (by decide)) ⟨rfl, by decide, by decide⟩ hF hb (fun H hO hS => ⟨a, ns, rfl, hS, hlen, fun _ => rfl⟩) fun H e s' z => z
end TL
open PySem PySem.W PyProof.Rows
set_option maxRecDepth 100000 in
set_option maxHeartbeats 0 in
theorem TL.left : PySem.W.LeftO PySem.Challenge.rw_traylate_k11_programs_looked_over.row.prog TL.qv [] (fun s => PySem.W.xlAt TL.qv [] s && PySem.W.recOk PySem.Challenge.rw_traylate_k11_programs_looked_over.row.records s) (HT.kHook2 (fun K => (TL.seen K, TL.seenF K)) (true, TL.goodF)).obs (HT.kHook2 (fun K => (TL.seen K, TL.seenF K)) (true, TL.goodF)).val 8512 := by
  refine HT.left_of ?a ?b ?c ?d
  case a => kernel_rfl
  case b => kernel_rfl
  case c => intro s; kernel_rfl
  case d => intro w os; exact HT.both (TL.r1 w os) (HT.both (TL.r2 w os) (TL.r3 w os))
set_option maxRecDepth 100000 in
set_option maxHeartbeats 0 in
theorem PySem.Challenge.cw_traylate_k11_programs_looked_over_holds : PySem.Challenge.rw_traylate_k11_programs_looked_over.Holds := by
  w_on; o_law
  refine PySem.W.holds_open (q := TL.qv) (loose := []) (XP := PySem.W.XL TL.qv []) (YP := (HT.kHook2 (fun K => (TL.seen K, TL.seenF K)) (true, TL.goodF)).says) (d := TL.dl) (kwd := []) TL.left (HT.kHook2 (fun K => (TL.seen K, TL.seenF K)) (true, TL.goodF)).of (HT.kHook2 (fun K => (TL.seen K, TL.seenF K)) (true, TL.goodF)).keeps (fun s e => PySem.W.xl_of s (Bool.and_eq_true_iff.mp e).1) PySem.W.XL.keeps ?h1 ?h2 ?h3 (fun s e => PySem.W.recFacts_of (Bool.and_eq_true_iff.mp e).2) ?h4 (by assumption) ?h5 ⟨rfl, rfl, rfl, rfl, rfl, by decide +kernel⟩ ?hw (TL.walk (l := PySem.Challenge.rw_traylate_k11_programs_looked_over) ?w1 ?w2 ?w3)
  case h1 => kernel_rfl
  case h2 => kernel_rfl
  case h3 => kernel_rfl
  case h4 => kernel_rfl
  case h5 => kernel_rfl
  case hw => w_witness2
  case w1 => kernel_rfl
  case w2 => kernel_rfl
  case w3 => kernel_rfl

