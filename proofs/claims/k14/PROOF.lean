import PyProof.Rows.All
import Wide.All
import OpenK.AllK
import Wide.FinOn
import Lean
import PyProof.EqAt
import PyProof.EqKinds
import PyProof.TupleCall
import PyProof.ZipIter
import PyProof.EnumMake
import PyProof.Draws
import PyProof.Walks
import PySem.Value
import PyProof.StationsW
import PyProof.PassesOwn
import PyProof.RulesAs
import PyProof.Rows.TopTwo
import OpenK.KOwn
import PyProof.NsDelKeeps
import KE.KIsAll
import PyProof.ListMulRoad
import PyProof.FactsAll.tuple_2
import OpenK.KEqL
import PyProof.DictUpdate
import PyProof.FactsAll.dict_4
import PyProof.FactsAll.dict_3
import PyProof.StrLawsTight
import PyProof.FitsReplace
import PyProof.StrLawsIn
import KE.KIntText
import PyProof.Rows.StrAscii2
import PyProof.StrBlock
import KE.KxWritten
import KE.KxIndex
import PySem.Challenge.RW_traylate_k14_texts_of_no_program
set_option Elab.async false
set_option linter.all false
set_option maxRecDepth 100000
set_option maxHeartbeats 40000000
namespace L2
end L2
namespace L3
end L3
namespace L4
end L4
namespace L5
end L5
namespace L2
open PySem PySem.Spec PyProof.Rows
def inClass (s : Stmt) (j : Nat) : Stmt := match s with
 | .ClassDef _ _ _ body _ _ _ _ _ _ _ => body.getD j (.Pass ⟨0, 0, 0, 0⟩)
 | _ => .Pass ⟨0, 0, 0, 0⟩
end L2
namespace L2
open PySem PySem.Spec PyProof.Rows
def defArgs (s : Stmt) : Arguments := match s with
 | .FunctionDef _ a _ _ _ _ _ _ _ _ => a
 | _ => { posonlyargs := [], args := [], vararg := none, kwonlyargs := [], kw_defaults := [], kwarg := none, defaults := [] }
end L2
namespace L2
open PySem PySem.Spec PyProof.Rows
def defBody (s : Stmt) : List Stmt := match s with
 | .FunctionDef _ _ b _ _ _ _ _ _ _ => b
 | _ => []
end L2
namespace L2
open PySem PySem.Spec PyProof.Rows
def defScope (s : Stmt) : Scope := match s with
 | .FunctionDef _ _ _ _ _ _ sc _ _ _ => sc
 | _ => { kind := .function, names := [], isGenerator := false, isCoroutine := false }
end L2
namespace TL
open PySem PySem.Spec PyProof.Rows L2 L3
abbrev TOPi : Int := 1000000000000000000000000000000000000000000000000000000000000
end TL
namespace TL
open PySem PySem.Spec PyProof.Rows L2 L3
def top (i : Nat) : Stmt := PySem.Challenge.pw_traylate_k14_texts_of_no_program.main.body.getD i (.Pass ⟨0, 0, 0, 0⟩)
end TL
namespace TL
open PySem PySem.Spec PyProof.Rows L2 L3
abbrev sInit : Stmt := inClass (top 13) 0
end TL
namespace TL
open PySem PySem.Spec PyProof.Rows L2 L3
abbrev sWhole : Stmt := top 21
end TL
namespace TL
open PySem PySem.Spec PyProof.Rows L2 L3
abbrev sBounds : Stmt := top 22
end TL
namespace TL
open PySem PySem.Spec PyProof.Rows L2 L3
abbrev sIsStep : Stmt := top 23
end TL
namespace TL
open PySem PySem.Spec PyProof.Rows L2 L3
abbrev sStepOf : Stmt := top 24
end TL
namespace TL
open PySem PySem.Spec PyProof.Rows L2 L3
abbrev sPutI : Stmt := inClass (top 14) 0
end TL
namespace TL
open PySem PySem.Spec PyProof.Rows L2 L3
abbrev sAddI : Stmt := inClass (top 15) 0
end TL
namespace TL
open PySem PySem.Spec PyProof.Rows L2 L3
abbrev sSetI : Stmt := inClass (top 16) 0
end TL
namespace TL
open PySem PySem.Spec PyProof.Rows L2 L3
abbrev sLookI : Stmt := inClass (top 17) 0
end TL
namespace TL
open PySem PySem.Spec PyProof.Rows L2 L3
abbrev sSwapI : Stmt := inClass (top 18) 0
end TL
namespace TL
open PySem PySem.Spec PyProof.Rows L2 L3
abbrev sSkipI : Stmt := inClass (top 20) 0
end TL
namespace L2
open PySem
abbrev chNT : Addr := 87
end L2
namespace L2
open PySem PySem.Spec PyProof.Rows L3
open Sem (wp)
abbrev bmVE : List Value := [.type "ValueError", .type "Exception", .type "BaseException", .type "object"]
end L2
namespace L2
open PySem PySem.Spec PyProof.Rows
abbrev gaBE : String := "BaseException.__getattribute__"
end L2
namespace L2
open PySem PySem.Spec PyProof.Rows L3
def onlyExc : List Value → Bool
 | .ref _ :: r => onlyExc r
 | .type a :: r => a == "ValueError" && (r == [.type "Exception", .type "BaseException", .type "object"])
 | _ => false
end L2
namespace L2
open PySem PySem.Spec PyProof.Rows L3
def excInI (K : W.Frag) (C : Addr) (bmB : List Value) (newId : String) : Bool :=
 match List.lookup C K with
 | some { cls := Value.type "type", dict := _, data := Data.cls cd, slots := sl } =>
  match cd.mro, sl.toList with
  | Value.ref C' :: bm, [_, _, _, _, some (Value.builtin n), _] => C' == C && n == newId && !cd.hasDel && W.tailIn K bmB bm && W.nsOkIn K cd.ns
  | _, _ => false
 | _ => false
end L2
namespace TL
open PySem PySem.Spec PyProof.Rows PySem.SeqAt L2 L3
abbrev sNPI : Stmt := inClass (top 5) 0
end TL
namespace TL
open PySem PySem.Spec PyProof.Rows PySem.SeqAt L2 L3
abbrev sHas : Stmt := top 27
end TL
namespace TL
open PySem PySem.Spec PyProof.Rows PySem.SeqAt L2 L3
abbrev sFits : Stmt := top 28
end TL
namespace TL
open PySem PySem.Spec PyProof.Rows PySem.SeqAt L2 L3
abbrev sLookOver : Stmt := top 29
end TL
namespace TL
open PySem PySem.Spec PyProof.Rows PySem.SeqAt L2 L3 L4
abbrev sRowOf : Stmt := top 34
end TL
namespace TL
open PySem PySem.Spec PyProof.Rows PySem.SeqAt L2 L3 L4
abbrev sProgText : Stmt := top 35
end TL
namespace TL
open PySem PySem.Spec PyProof.Rows PySem.SeqAt L2 L3 L4
abbrev sIsNum : Stmt := top 36
end TL
namespace TL
open PySem PySem.Spec PyProof.Rows PySem.SeqAt L2 L3 L4
abbrev sNumOf : Stmt := top 37
end TL
namespace TL
open PySem PySem.Spec PyProof.Rows PySem.SeqAt L2 L3 L4
abbrev sToldOf : Stmt := top 38
end TL
namespace TL
open PySem PySem.Spec PyProof.Rows PySem.SeqAt L2 L3 L4
abbrev sPartsOf : Stmt := top 39
end TL
namespace TL
open PySem PySem.Spec PyProof.Rows PySem.SeqAt L2 L3 L4
abbrev sReadP : Stmt := top 40
end TL
namespace TL
open PySem PySem.Spec PyProof.Rows PySem.SeqAt L2 L3 L4
abbrev sCellAt : Stmt := top 42
end TL
namespace TL
open PySem PySem.Spec PyProof.Rows PySem.SeqAt L2 L3 L4
abbrev sMixed : Stmt := top 43
end TL
namespace TL
open PySem PySem.Spec PyProof.Rows PySem.SeqAt L2 L3 L4
abbrev sLStep : Stmt := top 44
end TL
namespace TL
open PySem PySem.Spec PyProof.Rows PySem.SeqAt L2 L3 L4
abbrev sLines : Stmt := top 45
end TL
namespace TL
open PySem PySem.Spec PyProof.Rows PySem.SeqAt L2 L3 L4
abbrev sByWord : Stmt := top 46
end TL
namespace TL
open PySem PySem.Spec PyProof.Rows PySem.SeqAt L2 L3 L4
abbrev sByRow : Stmt := top 47
end TL
namespace TL
open PySem PySem.Spec PyProof.Rows PySem.SeqAt L2 L3 L4
abbrev sLIs : Stmt := top 48
end TL
namespace TL
open PySem PySem.Spec PyProof.Rows PySem.SeqAt L2 L3 L4
abbrev sGood : Stmt := top 49
end TL
namespace TL
open PySem PySem.Spec PyProof.Rows PySem.SeqAt L2 L3 L4
abbrev sRefd : Stmt := top 50
end TL
namespace TL
open PySem PySem.Spec PyProof.Rows PySem.SeqAt L2 L3 L4
abbrev sLaw : Stmt := top 51
end TL
namespace HT
open PySem PySem.W
def topRunT (tb : String → Option Builtin) (p : Program) (w : World) (n₀ : Nat) (ann : Option Value) : Nat → SharedT → Thread → Option SharedT
 | 0, _, _ => none
 | n + 1, s, t => match through t with
  | true => some s
  | false => match stepOk n₀ ann t with
   | false => none
   | true => match stepT (denote tb) p w s t with
    | some (s', t') => topRunT tb p w n₀ ann n s' t'
    | none => none
theorem topRun_ofT {tb : String → Option Builtin} {p : Program} {w : World} {n₀ : Nat} {ann : Option Value} : ∀ {n : Nat} {s s' : SharedT} {t : Thread}, topRunT tb p w n₀ ann n s t = some s' → topRun tb p w n₀ ann n s.abs t = some s'.abs
 | 0, _, _, _, h => by cases h
 | n + 1, s, s', t, h => by
  unfold topRunT at h
  unfold topRun
  cases he : through t with
  | true => rw [he] at h; cases h; rfl
  | false =>
   rw [he] at h
   cases hk : stepOk n₀ ann t with
   | false => rw [hk] at h; cases h
   | true =>
    rw [hk] at h
    cases hs : stepT (denote tb) p w s t with
    | none => rw [hs] at h; cases h
    | some r => obtain ⟨s₂, t₂⟩ := r; rw [hs] at h; rw [stepT_spec hs]; exact topRun_ofT h
def treeOfL : List Obj → Nat → BT → BT
 | [], _, t => t
 | o :: r, i, t => treeOfL r (i + 1) (t.ins i o)
noncomputable def bootT (P : Params) : BT := treeOfL (boot_heap P).objs.toList 0 .nil
noncomputable def bootN (P : Params) : Nat := (boot_heap P).objs.size
noncomputable def bootL (P : Params) : Life := (boot_heap P).life
noncomputable def bootA (P : Params) : Option Value := (boot_heap P).nsMap mainGlobals "__annotations__"
theorem boot_abs (P : Params) : absHeap (bootT P) (bootN P) (bootL P) = boot_heap P := by kernel_rfl
theorem boot_ns (P : Params) : ((boot_heap P).isNs mainGlobals, (boot_heap P).objs.size) = (true, bootN P) := by kernel_rfl
noncomputable def start₀ (P : Params) (os : OsState) : SharedT := ⟨bootT P, bootN P, bootL P, #[], boot_drawn, boot_toks, os⟩
noncomputable def ran (p : Program) (w : World) (N : Nat) (os : OsState) : Option SharedT := topRunT treeTable p w (bootN w.params) (bootA w.params) N (start₀ w.params os) (topStub p)
noncomputable def held (p : Program) (P : Params) (s : Shared) : Bool := staticsOk (importedModules p.main.body) (boot_heap P) s.heap && namesBound p s.heap && gensDone s && laidKept (boot_heap P) s.heap
theorem both {α β γ : Type} {o : Option α} {f : α → β} {g : α → γ} {b : β} {c : γ} (h1 : o.map f = some b) (h2 : o.map g = some c) : o.map (fun s => (f s, g s)) = some (b, c) := by
 cases o with
 | none => cases h1
 | some s => cases h1; cases h2; rfl
theorem topFrom_of {p : Program} {w : World} {N : Nat} {s₀ s₁ : Shared} (a : (s₀.heap.isNs mainGlobals && s₀.gens.size == 0) = true) (r : topRun treeTable p w s₀.heap.objs.size (s₀.heap.nsMap mainGlobals "__annotations__") N s₀ (topStub p) = some s₁)
  (b : (staticsOk (importedModules p.main.body) s₀.heap s₁.heap && namesBound p s₁.heap && gensDone s₁ && laidKept s₀.heap s₁.heap) = true) : topFrom treeTable p w N s₀ = some s₁ := by
 unfold topFrom
 rw [a]
 dsimp only
 rw [r]
 dsimp only [Option.bind]
 rw [b]
theorem left_of {p q : Program} {loose : List Str} {Xt : Shared → Bool} {α : Type} {Yf : Shared → α} {Ya : World → α} {N : Nat} (e : opening p = plainProg p.main.scope.names) (hN : Nat.ble 600 N = true) (f : ∀ s, fenceModules? p s = some s)
  (run : ∀ (w : World) (os : OsState), (ran p w N os).map (fun s => (held p w.params s.abs, (openSeen q loose (importedModules p.main.body) Xt true s.abs, Yf s.abs))) = some (true, (openGood q loose, Ya w))) : LeftO p q loose Xt Yf Ya N := fun w => by
 obtain ⟨⟨h, gs, d, k, os⟩, e1, e'⟩ := Option.map_eq_some_iff.mp (boot_open e hN f w)
 obtain ⟨rfl, rfl, rfl, rfl⟩ : h = boot_heap w.params ∧ gs = Array.mk [] ∧ d = boot_drawn ∧ k = boot_toks := by simpa using e'
 obtain ⟨s₁, r, l⟩ := Option.map_eq_some_iff.mp (run w os)
 obtain ⟨l1, l2⟩ := Prod.mk.inj l
 obtain ⟨z1, z2⟩ := Prod.mk.inj (boot_ns w.params)
 have r' := topRun_ofT r
 have ea : (start₀ w.params os).abs = ⟨boot_heap w.params, Array.mk [], boot_drawn, boot_toks, os⟩ := by
  show (⟨absHeap (bootT w.params) (bootN w.params) (bootL w.params), _, _, _, _⟩ : Shared) = _
  rw [boot_abs]
  rfl
 rw [ea] at r'
 have t : topFrom treeTable p w N ⟨boot_heap w.params, Array.mk [], boot_drawn, boot_toks, os⟩ = some s₁.abs := topFrom_of (by rw [z1]; rfl) (by show topRun treeTable p w (boot_heap w.params).objs.size _ N _ _ = _; rw [z2]; exact r') l1
 unfold openEnds
 rw [e1]
 show (topFrom treeTable p w N _).map _ = _
 rw [t]
 exact congrArg some l2
end HT
namespace HT
open PySem PySem.W
def fragAt (h : Heap) : Frag := (List.range h.objs.size).filterMap fun a => (h.get? a).map fun o => (a, o)
theorem look_fm {g : Addr → Option Obj} {a : Addr} {o : Obj} : ∀ l : List Addr, (l.filterMap fun a => (g a).map fun o => (a, o)).lookup a = some o → g a = some o
 | [], h => by cases h
 | b :: r, h => by
  rw [List.filterMap_cons] at h
  cases e : g b with
  | none => rw [e] at h; exact look_fm r h
  | some x =>
   rw [e] at h
   dsimp only [Option.map] at h
   rw [List.lookup_cons] at h
   cases q : a == b with
   | true => rw [q] at h; cases h; rw [beq_iff_eq.mp q]; exact e
   | false => rw [q] at h; exact look_fm r h
theorem fragAt_in (h : Heap) : (fragAt h).In h := fun _ _ e => look_fm _ e
def rf : Option (Option Value) → Addr
 | some (some (.ref a)) => a
 | _ => 0
def isR : Option (Option Value) → Bool
 | some (some (.ref _)) => true
 | _ => false
theorem rf_eq {o : Option (Option Value)} (h : isR o = true) : o = some (some (.ref (rf o))) := by
 unfold isR at h
 split at h
 ·rfl
 ·cases h
def isI (o : Option (Option Value)) (n : Int) : Bool := match o with
 | some (some (.int m _)) => decide (m = n)
 | _ => false
theorem isI_eq {o : Option (Option Value)} {n : Int} (h : isI o n = true) : ∃ t, o = some (some (.int n t)) := by
 unfold isI at h
 split at h
 ·rename_i m t; exact ⟨t, by rw [of_decide_eq_true h]⟩
 ·cases h
def isS (o : Option (Option Value)) (x : Str) : Bool := match o with
 | some (some (.str y _)) => decide (y = x)
 | _ => false
theorem isS_eq {o : Option (Option Value)} {x : Str} (h : isS o x = true) : ∃ t, o = some (some (.str x t)) := by
 unfold isS at h
 split at h
 ·rename_i y t
  rw [of_decide_eq_true h]
  exact ⟨_, rfl⟩
 ·cases h
def isV (o : Option CFound) (f : Addr) : Bool := match o with
 | some (.val (.ref a)) => Nat.beq a f
 | _ => false
theorem isV_eq {o : Option CFound} {f : Addr} (h : isV o f = true) : o = some (.val (.ref f)) := by
 unfold isV at h
 split at h
 ·rw [Nat.eq_of_beq_eq_true h]
 ·cases h
abbrev FnP := Str × Str × Arguments × FuncBody × Scope × Addr × List (Str × Addr) × Value × Addr
def fnP (K : Frag) (f : Addr) : Option FnP := match K.lookup f with
 | some ⟨_, _, .func d, _⟩ => some (d.name, d.qualname, d.params, d.body, d.scope, d.globals, d.closure, d.defaults, d.builtins)
 | _ => none
def codeOk (K : Frag) (f : Addr) (q : Str) : Bool := match K.lookup f with
 | some ⟨_, _, .func d, _⟩ => codeIn K d.code q
 | _ => false
theorem fn_of {K : Frag} {f : Addr} {n q q' : Str} {A : Arguments} {B : List Stmt} {S : Scope} (h : fnP K f = some (n, q, A, .stmts B, S, mainGlobals, [], .none, builtinsNs)) (hc : codeOk K f q' = true) :
  ∃ (oc : Value) (od : Option Addr) (kV dc pm : Value) (an : Option Addr) (cd ct : Value) (sl : Array (Option Value)), K.lookup f = some ⟨oc, od, .func (fnOf n q A B S .none kV dc pm an cd ct), sl⟩ ∧ codeIn K cd q' = true := by
 unfold fnP at h
 unfold codeOk at hc
 split at h
 ·rename_i oc od d sl e
  rw [e] at hc
  obtain ⟨d1, d2, d3, d4, d5, d6, d7, d8, d9, d10, d11, d12, d13, d14, d15⟩ := d
  simp only [Option.some.injEq, Prod.mk.injEq] at h
  obtain ⟨rfl, rfl, rfl, rfl, rfl, rfl, rfl, rfl, rfl⟩ := h
  exact ⟨oc, od, _, _, _, _, _, _, sl, e, hc⟩
 ·cases h
theorem andD {p : Prop} [Decidable p] {b : Bool} (h : (decide p && b) = true) : p ∧ b = true := by
 rw [Bool.and_eq_true, decide_eq_true_eq] at h; exact h
theorem andB {a b : Bool} (h : (a && b) = true) : a = true ∧ b = true := by
 rw [Bool.and_eq_true] at h; exact h
def kHook2 (obs : Frag → Bool × List (Option FnP)) (val : Bool × List (Option FnP)) : Hook :=
 ⟨Bool × List (Option FnP), fun s => obs (fragAt s.heap), fun _ => val, fun _ h => ∃ K : Frag, K.In h ∧ obs K = val, fun _ s e => ⟨_, fragAt_in s.heap, e⟩, fun _ _ _ ⟨K, a, b⟩ k => ⟨K, a.keeps k, b⟩⟩
end HT
namespace TL
open PySem PySem.Spec PyProof.Rows PySem.SeqAt L2 L3
def A_xEr (K : W.Frag) : Addr := HT.rf (W.nsIn K mainGlobals "TrayError")
def A_xNo (K : W.Frag) : Addr := HT.rf (W.nsIn K mainGlobals "NoStep")
def A_xNC (K : W.Frag) : Addr := HT.rf (W.nsIn K mainGlobals "NoClerks")
def A_xNP (K : W.Frag) : Addr := HT.rf (W.nsIn K mainGlobals "NoProgram")
def A_xNT (K : W.Frag) : Addr := HT.rf (W.nsIn K mainGlobals "NoText")
def A_xNL (K : W.Frag) : Addr := HT.rf (W.nsIn K mainGlobals "NoLine")
def A_cStep (K : W.Frag) : Addr := HT.rf (W.nsIn K mainGlobals "Step")
def A_cPut (K : W.Frag) : Addr := HT.rf (W.nsIn K mainGlobals "Put")
def A_cAdd (K : W.Frag) : Addr := HT.rf (W.nsIn K mainGlobals "Add")
def A_cSet (K : W.Frag) : Addr := HT.rf (W.nsIn K mainGlobals "Set")
def A_cLook (K : W.Frag) : Addr := HT.rf (W.nsIn K mainGlobals "Look")
def A_cSwap (K : W.Frag) : Addr := HT.rf (W.nsIn K mainGlobals "Swap")
def A_cSkip (K : W.Frag) : Addr := HT.rf (W.nsIn K mainGlobals "Skip")
def A_cClear (K : W.Frag) : Addr := HT.rf (W.nsIn K mainGlobals "Clear")
def A_fW (K : W.Frag) : Addr := HT.rf (W.nsIn K mainGlobals "is_whole")
def A_fB (K : W.Frag) : Addr := HT.rf (W.nsIn K mainGlobals "bounds_of")
def A_fS (K : W.Frag) : Addr := HT.rf (W.nsIn K mainGlobals "is_step")
def A_fO (K : W.Frag) : Addr := HT.rf (W.nsIn K mainGlobals "step_of")
def A_fI (K : W.Frag) : Addr := HT.rf (W.findIn K (.ref (A_cStep K)) "__init__")
def A_fPut (K : W.Frag) : Addr := HT.rf (W.findIn K (.ref (A_cPut K)) "__init__")
def A_fAdd (K : W.Frag) : Addr := HT.rf (W.findIn K (.ref (A_cAdd K)) "__init__")
def A_fSet (K : W.Frag) : Addr := HT.rf (W.findIn K (.ref (A_cSet K)) "__init__")
def A_fLook (K : W.Frag) : Addr := HT.rf (W.findIn K (.ref (A_cLook K)) "__init__")
def A_fSwap (K : W.Frag) : Addr := HT.rf (W.findIn K (.ref (A_cSwap K)) "__init__")
def A_fSkip (K : W.Frag) : Addr := HT.rf (W.findIn K (.ref (A_cSkip K)) "__init__")
def A_fNPI (K : W.Frag) : Addr := HT.rf (W.findIn K (.ref (A_xNP K)) "__init__")
def A_fHC (K : W.Frag) : Addr := HT.rf (W.nsIn K mainGlobals "has_clerks")
def A_fFI (K : W.Frag) : Addr := HT.rf (W.nsIn K mainGlobals "fits")
def A_fLO (K : W.Frag) : Addr := HT.rf (W.nsIn K mainGlobals "look_over")
def A_fRO (K : W.Frag) : Addr := HT.rf (W.nsIn K mainGlobals "row_of")
def A_fPT (K : W.Frag) : Addr := HT.rf (W.nsIn K mainGlobals "program_text")
def A_fIN (K : W.Frag) : Addr := HT.rf (W.nsIn K mainGlobals "is_number")
def A_fNO (K : W.Frag) : Addr := HT.rf (W.nsIn K mainGlobals "number_of")
def A_fTO (K : W.Frag) : Addr := HT.rf (W.nsIn K mainGlobals "told_of")
def A_fPO (K : W.Frag) : Addr := HT.rf (W.nsIn K mainGlobals "parts_of")
def A_fRP (K : W.Frag) : Addr := HT.rf (W.nsIn K mainGlobals "read_program")
def A_fCA (K : W.Frag) : Addr := HT.rf (W.nsIn K mainGlobals "_law_cell_at")
def A_fMI (K : W.Frag) : Addr := HT.rf (W.nsIn K mainGlobals "_law_mixed")
def A_fLS (K : W.Frag) : Addr := HT.rf (W.nsIn K mainGlobals "_law_step")
def A_fLI (K : W.Frag) : Addr := HT.rf (W.nsIn K mainGlobals "_law_lines")
def A_fBW (K : W.Frag) : Addr := HT.rf (W.nsIn K mainGlobals "_law_by_word")
def A_fBR (K : W.Frag) : Addr := HT.rf (W.nsIn K mainGlobals "_law_by_row")
def A_fIS (K : W.Frag) : Addr := HT.rf (W.nsIn K mainGlobals "_law_is_step")
def A_fGD (K : W.Frag) : Addr := HT.rf (W.nsIn K mainGlobals "_law_good")
def A_fRF (K : W.Frag) : Addr := HT.rf (W.nsIn K mainGlobals "_law_refused")
def A_fLaw (K : W.Frag) : Addr := HT.rf (W.nsIn K mainGlobals "law")
def seen_0 (K : W.Frag) : Bool :=
 (HT.isR (W.nsIn K mainGlobals "TrayError")) && (
 (HT.isR (W.nsIn K mainGlobals "NoStep")) && (
 (HT.isR (W.nsIn K mainGlobals "NoClerks")) && (
 (HT.isR (W.nsIn K mainGlobals "NoProgram")) && (
 (HT.isR (W.nsIn K mainGlobals "NoText")) && (
 (HT.isR (W.nsIn K mainGlobals "NoLine")) && (
 (HT.isR (W.nsIn K mainGlobals "Step")) && (
 (HT.isR (W.nsIn K mainGlobals "Put")) && (
 (HT.isR (W.nsIn K mainGlobals "Add")) && (
 (HT.isR (W.nsIn K mainGlobals "Set")) && (true))))))))))
def seen_1 (K : W.Frag) : Bool :=
 (HT.isR (W.nsIn K mainGlobals "Look")) && (
 (HT.isR (W.nsIn K mainGlobals "Swap")) && (
 (HT.isR (W.nsIn K mainGlobals "Skip")) && (
 (HT.isR (W.nsIn K mainGlobals "Clear")) && (
 (HT.isR (W.nsIn K mainGlobals "is_whole")) && (
 (HT.codeOk K (A_fW K) "is_whole") && (
 (W.keepIn K (.ref (A_fW K))) && (
 (HT.isR (W.nsIn K mainGlobals "bounds_of")) && (
 (HT.codeOk K (A_fB K) "bounds_of") && (
 (W.keepIn K (.ref (A_fB K))) && (true))))))))))
def seen_2 (K : W.Frag) : Bool :=
 (HT.isR (W.nsIn K mainGlobals "is_step")) && (
 (HT.codeOk K (A_fS K) "is_step") && (
 (W.keepIn K (.ref (A_fS K))) && (
 (HT.isR (W.nsIn K mainGlobals "step_of")) && (
 (HT.codeOk K (A_fO K) "step_of") && (
 (W.keepIn K (.ref (A_fO K))) && (
 (HT.isR (W.findIn K (.ref (A_cStep K)) "__init__")) && (
 (HT.codeOk K (A_fI K) "Step.__init__") && (
 (W.keepIn K (.ref (A_fI K))) && (
 (W.isFn K (.ref (A_fI K))) && (true))))))))))
def seen_3 (K : W.Frag) : Bool :=
 (HT.isR (W.findIn K (.ref (A_cPut K)) "__init__")) && (
 (HT.codeOk K (A_fPut K) "Put.__init__") && (
 (W.keepIn K (.ref (A_fPut K))) && (
 (W.isFn K (.ref (A_fPut K))) && (
 (HT.isR (W.findIn K (.ref (A_cAdd K)) "__init__")) && (
 (HT.codeOk K (A_fAdd K) "Add.__init__") && (
 (W.keepIn K (.ref (A_fAdd K))) && (
 (W.isFn K (.ref (A_fAdd K))) && (
 (HT.isR (W.findIn K (.ref (A_cSet K)) "__init__")) && (
 (HT.codeOk K (A_fSet K) "Set.__init__") && (true))))))))))
def seen_4 (K : W.Frag) : Bool :=
 (W.keepIn K (.ref (A_fSet K))) && (
 (W.isFn K (.ref (A_fSet K))) && (
 (HT.isR (W.findIn K (.ref (A_cLook K)) "__init__")) && (
 (HT.codeOk K (A_fLook K) "Look.__init__") && (
 (W.keepIn K (.ref (A_fLook K))) && (
 (W.isFn K (.ref (A_fLook K))) && (
 (HT.isR (W.findIn K (.ref (A_cSwap K)) "__init__")) && (
 (HT.codeOk K (A_fSwap K) "Swap.__init__") && (
 (W.keepIn K (.ref (A_fSwap K))) && (
 (W.isFn K (.ref (A_fSwap K))) && (true))))))))))
def seen_5 (K : W.Frag) : Bool :=
 (HT.isR (W.findIn K (.ref (A_cSkip K)) "__init__")) && (
 (HT.codeOk K (A_fSkip K) "Skip.__init__") && (
 (W.keepIn K (.ref (A_fSkip K))) && (
 (W.isFn K (.ref (A_fSkip K))) && (
 (HT.isR (W.findIn K (.ref (A_xNP K)) "__init__")) && (
 (HT.codeOk K (A_fNPI K) "NoProgram.__init__") && (
 (W.keepIn K (.ref (A_fNPI K))) && (
 (W.isFn K (.ref (A_fNPI K))) && (
 (HT.isR (W.nsIn K mainGlobals "has_clerks")) && (
 (HT.codeOk K (A_fHC K) "has_clerks") && (true))))))))))
def seen_6 (K : W.Frag) : Bool :=
 (W.keepIn K (.ref (A_fHC K))) && (
 (HT.isR (W.nsIn K mainGlobals "fits")) && (
 (HT.codeOk K (A_fFI K) "fits") && (
 (W.keepIn K (.ref (A_fFI K))) && (
 (HT.isR (W.nsIn K mainGlobals "look_over")) && (
 (HT.codeOk K (A_fLO K) "look_over") && (
 (W.keepIn K (.ref (A_fLO K))) && (
 (HT.isR (W.nsIn K mainGlobals "row_of")) && (
 (HT.codeOk K (A_fRO K) "row_of") && (
 (W.keepIn K (.ref (A_fRO K))) && (true))))))))))
def seen_7 (K : W.Frag) : Bool :=
 (HT.isR (W.nsIn K mainGlobals "program_text")) && (
 (HT.codeOk K (A_fPT K) "program_text") && (
 (W.keepIn K (.ref (A_fPT K))) && (
 (HT.isR (W.nsIn K mainGlobals "is_number")) && (
 (HT.codeOk K (A_fIN K) "is_number") && (
 (W.keepIn K (.ref (A_fIN K))) && (
 (HT.isR (W.nsIn K mainGlobals "number_of")) && (
 (HT.codeOk K (A_fNO K) "number_of") && (
 (W.keepIn K (.ref (A_fNO K))) && (
 (HT.isR (W.nsIn K mainGlobals "told_of")) && (true))))))))))
def seen_8 (K : W.Frag) : Bool :=
 (HT.codeOk K (A_fTO K) "told_of") && (
 (W.keepIn K (.ref (A_fTO K))) && (
 (HT.isR (W.nsIn K mainGlobals "parts_of")) && (
 (HT.codeOk K (A_fPO K) "parts_of") && (
 (W.keepIn K (.ref (A_fPO K))) && (
 (HT.isR (W.nsIn K mainGlobals "read_program")) && (
 (HT.codeOk K (A_fRP K) "read_program") && (
 (W.keepIn K (.ref (A_fRP K))) && (
 (HT.isR (W.nsIn K mainGlobals "_law_cell_at")) && (
 (HT.codeOk K (A_fCA K) "_law_cell_at") && (true))))))))))
def seen_9 (K : W.Frag) : Bool :=
 (W.keepIn K (.ref (A_fCA K))) && (
 (HT.isR (W.nsIn K mainGlobals "_law_mixed")) && (
 (HT.codeOk K (A_fMI K) "_law_mixed") && (
 (W.keepIn K (.ref (A_fMI K))) && (
 (HT.isR (W.nsIn K mainGlobals "_law_step")) && (
 (HT.codeOk K (A_fLS K) "_law_step") && (
 (W.keepIn K (.ref (A_fLS K))) && (
 (HT.isR (W.nsIn K mainGlobals "_law_lines")) && (
 (HT.codeOk K (A_fLI K) "_law_lines") && (
 (W.keepIn K (.ref (A_fLI K))) && (true))))))))))
def seen_10 (K : W.Frag) : Bool :=
 (HT.isR (W.nsIn K mainGlobals "_law_by_word")) && (
 (HT.codeOk K (A_fBW K) "_law_by_word") && (
 (W.keepIn K (.ref (A_fBW K))) && (
 (HT.isR (W.nsIn K mainGlobals "_law_by_row")) && (
 (HT.codeOk K (A_fBR K) "_law_by_row") && (
 (W.keepIn K (.ref (A_fBR K))) && (
 (HT.isR (W.nsIn K mainGlobals "_law_is_step")) && (
 (HT.codeOk K (A_fIS K) "_law_is_step") && (
 (W.keepIn K (.ref (A_fIS K))) && (
 (HT.isR (W.nsIn K mainGlobals "_law_good")) && (true))))))))))
def seen_11 (K : W.Frag) : Bool :=
 (HT.codeOk K (A_fGD K) "_law_good") && (
 (W.keepIn K (.ref (A_fGD K))) && (
 (HT.isR (W.nsIn K mainGlobals "_law_refused")) && (
 (HT.codeOk K (A_fRF K) "_law_refused") && (
 (W.keepIn K (.ref (A_fRF K))) && (
 (HT.isR (W.nsIn K mainGlobals "law")) && (
 (HT.codeOk K (A_fLaw K) "law") && (
 (W.keepIn K (.ref (A_fLaw K))) && (
 (W.plainGet K (A_cStep K) Str.empty) && (
 (W.hasDictIn K (A_cStep K)) && (true))))))))))
def seen_12 (K : W.Frag) : Bool :=
 (W.plainOver K (A_cStep K)) && (
 (decide (W.findIn K (.ref (A_cStep K)) "__setattr__" = some (some (.builtin "object.__setattr__")))) && (
 (W.plainGet K (A_cPut K) Str.empty) && (
 (W.hasDictIn K (A_cPut K)) && (
 (W.plainOver K (A_cPut K)) && (
 (decide (W.findIn K (.ref (A_cPut K)) "__setattr__" = some (some (.builtin "object.__setattr__")))) && (
 (W.makesIn K (A_cPut K)) && (
 (W.keepIn K (.ref (A_cPut K))) && (
 (decide (W.findIn K (.ref (A_cPut K)) "parts" = some none)) && (
 (decide (W.findIn K (.ref (A_cPut K)) "reg" = some none)) && (true))))))))))
def seen_13 (K : W.Frag) : Bool :=
 (decide (W.findIn K (.ref (A_cPut K)) "number" = some none)) && (
 (W.plainGet K (A_cAdd K) Str.empty) && (
 (W.hasDictIn K (A_cAdd K)) && (
 (W.plainOver K (A_cAdd K)) && (
 (decide (W.findIn K (.ref (A_cAdd K)) "__setattr__" = some (some (.builtin "object.__setattr__")))) && (
 (W.makesIn K (A_cAdd K)) && (
 (W.keepIn K (.ref (A_cAdd K))) && (
 (decide (W.findIn K (.ref (A_cAdd K)) "parts" = some none)) && (
 (decide (W.findIn K (.ref (A_cAdd K)) "reg" = some none)) && (
 (decide (W.findIn K (.ref (A_cAdd K)) "other" = some none)) && (true))))))))))
def seen_14 (K : W.Frag) : Bool :=
 (W.plainGet K (A_cSet K) Str.empty) && (
 (W.hasDictIn K (A_cSet K)) && (
 (W.plainOver K (A_cSet K)) && (
 (decide (W.findIn K (.ref (A_cSet K)) "__setattr__" = some (some (.builtin "object.__setattr__")))) && (
 (W.makesIn K (A_cSet K)) && (
 (W.keepIn K (.ref (A_cSet K))) && (
 (decide (W.findIn K (.ref (A_cSet K)) "parts" = some none)) && (
 (decide (W.findIn K (.ref (A_cSet K)) "name" = some none)) && (
 (decide (W.findIn K (.ref (A_cSet K)) "reg" = some none)) && (
 (W.plainGet K (A_cLook K) Str.empty) && (true))))))))))
def seen_15 (K : W.Frag) : Bool :=
 (W.hasDictIn K (A_cLook K)) && (
 (W.plainOver K (A_cLook K)) && (
 (decide (W.findIn K (.ref (A_cLook K)) "__setattr__" = some (some (.builtin "object.__setattr__")))) && (
 (W.makesIn K (A_cLook K)) && (
 (W.keepIn K (.ref (A_cLook K))) && (
 (decide (W.findIn K (.ref (A_cLook K)) "parts" = some none)) && (
 (decide (W.findIn K (.ref (A_cLook K)) "reg" = some none)) && (
 (decide (W.findIn K (.ref (A_cLook K)) "name" = some none)) && (
 (W.plainGet K (A_cSwap K) Str.empty) && (
 (W.hasDictIn K (A_cSwap K)) && (true))))))))))
def seen_16 (K : W.Frag) : Bool :=
 (W.plainOver K (A_cSwap K)) && (
 (decide (W.findIn K (.ref (A_cSwap K)) "__setattr__" = some (some (.builtin "object.__setattr__")))) && (
 (W.makesIn K (A_cSwap K)) && (
 (W.keepIn K (.ref (A_cSwap K))) && (
 (decide (W.findIn K (.ref (A_cSwap K)) "parts" = some none)) && (
 (decide (W.findIn K (.ref (A_cSwap K)) "reg" = some none)) && (
 (decide (W.findIn K (.ref (A_cSwap K)) "name" = some none)) && (
 (W.plainGet K (A_cSkip K) Str.empty) && (
 (W.hasDictIn K (A_cSkip K)) && (
 (W.plainOver K (A_cSkip K)) && (true))))))))))
def seen_17 (K : W.Frag) : Bool :=
 (decide (W.findIn K (.ref (A_cSkip K)) "__setattr__" = some (some (.builtin "object.__setattr__")))) && (
 (W.makesIn K (A_cSkip K)) && (
 (W.keepIn K (.ref (A_cSkip K))) && (
 (decide (W.findIn K (.ref (A_cSkip K)) "parts" = some none)) && (
 (decide (W.findIn K (.ref (A_cSkip K)) "reg" = some none)) && (
 (decide (W.findIn K (.ref (A_cSkip K)) "place" = some none)) && (
 (W.plainGet K (A_cClear K) Str.empty) && (
 (W.hasDictIn K (A_cClear K)) && (
 (W.plainOver K (A_cClear K)) && (
 (decide (W.findIn K (.ref (A_cClear K)) "__setattr__" = some (some (.builtin "object.__setattr__")))) && (true))))))))))
def seen_18 (K : W.Frag) : Bool :=
 (W.makesIn K (A_cClear K)) && (
 (W.keepIn K (.ref (A_cClear K))) && (
 (decide (W.findIn K (.ref (A_cClear K)) "parts" = some none)) && (
 (decide (W.findIn K (.ref (A_cPut K)) "__init__" = some (some (.ref (A_fPut K))))) && (
 (decide (W.findIn K (.ref (A_cAdd K)) "__init__" = some (some (.ref (A_fAdd K))))) && (
 (decide (W.findIn K (.ref (A_cSet K)) "__init__" = some (some (.ref (A_fSet K))))) && (
 (decide (W.findIn K (.ref (A_cLook K)) "__init__" = some (some (.ref (A_fLook K))))) && (
 (decide (W.findIn K (.ref (A_cSwap K)) "__init__" = some (some (.ref (A_fSwap K))))) && (
 (decide (W.findIn K (.ref (A_cSkip K)) "__init__" = some (some (.ref (A_fSkip K))))) && (
 (decide (W.findIn K (.ref (A_cClear K)) "__init__" = some (some (.ref (A_fI K))))) && (true))))))))))
def seen_19 (K : W.Frag) : Bool :=
 (decide (W.specialIn K (.ref (A_cStep K)) "__getattribute__" = some (some (.builtin "type.__getattribute__")))) && (
 (W.readsIn K (A_cStep K) (.type "type")) && (
 (HT.isV (W.findCls K (.ref (A_cStep K)) (.type "type") "__init__") (A_fI K)) && (
 (decide (W.nsIn K mainGlobals "isinstance" = some none)) && (
 (decide (W.nsIn K mainGlobals "int" = some none)) && (
 (decide (W.nsIn K mainGlobals "bool" = some none)) && (
 (decide (W.nsIn K mainGlobals "str" = some none)) && (
 (decide (W.nsIn K mainGlobals "tuple" = some none)) && (
 (decide (W.nsIn K mainGlobals "len" = some none)) && (
 (decide (W.nsIn K mainGlobals "all" = some none)) && (true))))))))))
def seen_20 (K : W.Frag) : Bool :=
 (decide (W.nsIn K mainGlobals "zip" = some none)) && (
 (decide (W.nsIn K mainGlobals "enumerate" = some none)) && (
 (decide (W.nsIn K mainGlobals "range" = some none)) && (
 (decide (W.nsIn K mainGlobals "list" = some none)) && (
 (decide (W.nsIn K mainGlobals "ValueError" = some none)) && (
 (HT.isI (W.nsIn K mainGlobals "TOP") TOPi) && (
 (HT.isI (W.nsIn K mainGlobals "NAMES") 12) && (
 (HT.isI (W.nsIn K mainGlobals "REGISTERS") 4) && (
 (HT.isI (W.nsIn K mainGlobals "LONGEST") 120) && (
 (HT.isI (W.nsIn K mainGlobals "CLERKS") 4) && (true))))))))))
def seen_21 (K : W.Frag) : Bool :=
 (HT.isI (W.nsIn K mainGlobals "MOST_FIGURES") 60) && (
 (HT.isS (W.nsIn K mainGlobals "HEAD") "clerk") && (
 (HT.isS (W.nsIn K mainGlobals "FIGURES") "0123456789") && (
 (W.excIn K (A_xNo K) bmVE "ValueError.__new__") && (
 (W.keepIn K (.ref (A_xNo K))) && (
 (decide (W.kitCls K (.ref (A_xNo K)) (.ref (A_xNo K)) = some true)) && (
 (decide (W.kitCls K (.ref (A_xNo K)) (.type "BaseException") = some true)) && (
 (decide (W.kitOne K (.ref (A_xNo K)) (.ref (A_xEr K)) = some true)) && (
 (decide (W.kitOne K (.ref (A_xNo K)) (.type "ValueError") = some true)) && (
 (decide (W.specialIn K (.builtin "object.__class__") "__get__" = some (some (.builtin "getset_descriptor.__get__")))) && (true))))))))))
def seen_22 (K : W.Frag) : Bool :=
 (decide (W.takesIn K (.builtin "object.__class__") = some true)) && (
 (W.excIn K (A_xNC K) bmVE "ValueError.__new__") && (
 (W.keepIn K (.ref (A_xNC K))) && (
 (excInI K (A_xNP K) bmVE "ValueError.__new__") && (
 (W.keepIn K (.ref (A_xNP K))) && (
 (decide (W.findIn K (.ref (A_xNP K)) "__setattr__" = some (some (.builtin "object.__setattr__")))) && (
 ((W.clsIn K (A_xNP K)).any (fun cd => onlyExc cd.mro && cd.hasDict)) && (
 (decide (W.findIn K (.ref (A_xNP K)) "clerk" = some none)) && (
 (decide (W.findIn K (.ref (A_xNP K)) "place" = some none)) && (
 (decide (W.findIn K (.ref (A_xNP K)) (Str.ofString "__getattribute__") = some (some (.builtin gaBE)))) && (true))))))))))
def seen_23 (K : W.Frag) : Bool :=
 (decide (W.findIn K (.ref (A_xNP K)) (Str.ofString "__getattr__") = some none)) && (
 (decide (W.mroIn K (A_xNP K) (.type "BaseException") = some true)) && (
 (decide (W.findIn K (.ref (A_cPut K)) "__class__" = some (some (.builtin "object.__class__")))) && (
 (decide (W.mroIn K (A_cPut K) (.type "object") = some true)) && (
 (decide (W.kitOne K (.ref (A_cPut K)) (.ref (A_cSkip K)) = some false)) && (
 (decide (W.findIn K (.ref (A_cAdd K)) "__class__" = some (some (.builtin "object.__class__")))) && (
 (decide (W.mroIn K (A_cAdd K) (.type "object") = some true)) && (
 (decide (W.kitOne K (.ref (A_cAdd K)) (.ref (A_cSkip K)) = some false)) && (
 (decide (W.findIn K (.ref (A_cSet K)) "__class__" = some (some (.builtin "object.__class__")))) && (
 (decide (W.mroIn K (A_cSet K) (.type "object") = some true)) && (true))))))))))
def seen_24 (K : W.Frag) : Bool :=
 (decide (W.kitOne K (.ref (A_cSet K)) (.ref (A_cSkip K)) = some false)) && (
 (decide (W.findIn K (.ref (A_cLook K)) "__class__" = some (some (.builtin "object.__class__")))) && (
 (decide (W.mroIn K (A_cLook K) (.type "object") = some true)) && (
 (decide (W.kitOne K (.ref (A_cLook K)) (.ref (A_cSkip K)) = some false)) && (
 (decide (W.findIn K (.ref (A_cSwap K)) "__class__" = some (some (.builtin "object.__class__")))) && (
 (decide (W.mroIn K (A_cSwap K) (.type "object") = some true)) && (
 (decide (W.kitOne K (.ref (A_cSwap K)) (.ref (A_cSkip K)) = some false)) && (
 (decide (W.findIn K (.ref (A_cSkip K)) "__class__" = some (some (.builtin "object.__class__")))) && (
 (decide (W.mroIn K (A_cSkip K) (.type "object") = some true)) && (
 (decide (W.kitOne K (.ref (A_cSkip K)) (.ref (A_cSkip K)) = some true)) && (true))))))))))
def seen_25 (K : W.Frag) : Bool :=
 (decide (W.findIn K (.ref (A_cClear K)) "__class__" = some (some (.builtin "object.__class__")))) && (
 (decide (W.mroIn K (A_cClear K) (.type "object") = some true)) && (
 (decide (W.kitOne K (.ref (A_cClear K)) (.ref (A_cSkip K)) = some false)) && (
 (decide (W.kitCls K (.ref (A_xEr K)) (.type "BaseException") = some true)) && (
 (W.excIn K (A_xNT K) bmVE "ValueError.__new__") && (
 (W.keepIn K (.ref (A_xNT K))) && (
 (decide ((A_xNC K) ≠ chNT)) && (
 (decide ((A_xNP K) ≠ chNT)) && (
 (decide (W.kitCls K (.ref (A_xNC K)) (.type "BaseException") = some true)) && (
 (decide (W.kitCls K (.ref (A_xNP K)) (.type "BaseException") = some true)) && (true))))))))))
def seen_26 (K : W.Frag) : Bool :=
 (decide (W.kitCls K (.ref (A_xNC K)) (.ref (A_xNC K)) = some true)) && (
 (decide (W.kitCls K (.ref (A_xNP K)) (.ref (A_xNC K)) = some false)) && (
 (decide (W.kitCls K (.ref (A_xNP K)) (.ref (A_xNP K)) = some true)) && (
 (decide (W.findIn K (.ref (A_xNT K)) (Str.ofString "__getattribute__") = some (some (.builtin gaBE)))) && (
 (decide (W.findIn K (.ref (A_xNT K)) (Str.ofString "__getattr__") = some none)) && (
 (decide (W.mroIn K (A_xNT K) (.type "BaseException") = some true)) && (
 (W.hasDictIn K (A_xNT K)) && (
 (decide (W.findIn K (.ref (A_xNT K)) (Str.ofString "__class__") = some (some (.builtin "object.__class__")))) && (
 (decide (W.mroIn K (A_xNT K) (.type "object") = some true)) && (
 (decide (W.kitCls K (.ref (A_xNT K)) (.ref (A_xEr K)) = some true)) && (true))))))))))
def seen_27 (K : W.Frag) : Bool :=
 (decide (W.kitOne K (.ref (A_xNT K)) (.type "ValueError") = some true)) && (
 (decide (W.kitOne K (.ref (A_xNT K)) (.ref (A_xNP K)) = some false)) && (
 (decide (W.kitOne K (.ref (A_xNT K)) (.ref (A_xNC K)) = some false)) && (
 (decide (W.kitOne K (.ref (A_xNT K)) (.ref (A_xNo K)) = some false)) && (
 (decide (W.kitOne K (.ref (A_xNT K)) (.ref (A_xNL K)) = some false)) && (
 (decide (W.kitOne K (.ref (A_xNT K)) (.ref (A_xNT K)) = some true)) && (
 (decide ((A_xNT K) = chNT)) && (true)))))))
def seen (K : W.Frag) : Bool := seen_0 K && (seen_1 K && (seen_2 K && (seen_3 K && (seen_4 K && (seen_5 K && (seen_6 K && (seen_7 K && (seen_8 K && (seen_9 K && (seen_10 K && (seen_11 K && (seen_12 K && (seen_13 K && (seen_14 K && (seen_15 K && (seen_16 K && (seen_17 K && (seen_18 K && (seen_19 K && (seen_20 K && (seen_21 K && (seen_22 K && (seen_23 K && (seen_24 K && (seen_25 K && (seen_26 K && (seen_27 K && true)))))))))))))))))))))))))))
def seenF (K : W.Frag) : List (Option HT.FnP) := [HT.fnP K (A_fW K), HT.fnP K (A_fB K), HT.fnP K (A_fS K), HT.fnP K (A_fO K), HT.fnP K (A_fI K), HT.fnP K (A_fPut K), HT.fnP K (A_fAdd K), HT.fnP K (A_fSet K), HT.fnP K (A_fLook K), HT.fnP K (A_fSwap K), HT.fnP K (A_fSkip K), HT.fnP K (A_fNPI K), HT.fnP K (A_fHC K), HT.fnP K (A_fFI K), HT.fnP K (A_fLO K), HT.fnP K (A_fRO K), HT.fnP K (A_fPT K), HT.fnP K (A_fIN K), HT.fnP K (A_fNO K), HT.fnP K (A_fTO K), HT.fnP K (A_fPO K), HT.fnP K (A_fRP K), HT.fnP K (A_fCA K), HT.fnP K (A_fMI K), HT.fnP K (A_fLS K), HT.fnP K (A_fLI K), HT.fnP K (A_fBW K), HT.fnP K (A_fBR K), HT.fnP K (A_fIS K), HT.fnP K (A_fGD K), HT.fnP K (A_fRF K), HT.fnP K (A_fLaw K)]
def goodF : List (Option HT.FnP) := [(some ("is_whole", "is_whole", defArgs sWhole, .stmts (defBody sWhole), defScope sWhole, mainGlobals, [], .none, builtinsNs) : Option HT.FnP),
 (some ("bounds_of", "bounds_of", defArgs sBounds, .stmts (defBody sBounds), defScope sBounds, mainGlobals, [], .none, builtinsNs) : Option HT.FnP),
 (some ("is_step", "is_step", defArgs sIsStep, .stmts (defBody sIsStep), defScope sIsStep, mainGlobals, [], .none, builtinsNs) : Option HT.FnP),
 (some ("step_of", "step_of", defArgs sStepOf, .stmts (defBody sStepOf), defScope sStepOf, mainGlobals, [], .none, builtinsNs) : Option HT.FnP),
 (some ("__init__", "Step.__init__", defArgs sInit, .stmts (defBody sInit), defScope sInit, mainGlobals, [], .none, builtinsNs) : Option HT.FnP),
 (some ("__init__", "Put.__init__", defArgs sPutI, .stmts (defBody sPutI), defScope sPutI, mainGlobals, [], .none, builtinsNs) : Option HT.FnP),
 (some ("__init__", "Add.__init__", defArgs sAddI, .stmts (defBody sAddI), defScope sAddI, mainGlobals, [], .none, builtinsNs) : Option HT.FnP),
 (some ("__init__", "Set.__init__", defArgs sSetI, .stmts (defBody sSetI), defScope sSetI, mainGlobals, [], .none, builtinsNs) : Option HT.FnP),
 (some ("__init__", "Look.__init__", defArgs sLookI, .stmts (defBody sLookI), defScope sLookI, mainGlobals, [], .none, builtinsNs) : Option HT.FnP),
 (some ("__init__", "Swap.__init__", defArgs sSwapI, .stmts (defBody sSwapI), defScope sSwapI, mainGlobals, [], .none, builtinsNs) : Option HT.FnP),
 (some ("__init__", "Skip.__init__", defArgs sSkipI, .stmts (defBody sSkipI), defScope sSkipI, mainGlobals, [], .none, builtinsNs) : Option HT.FnP),
 (some ("__init__", "NoProgram.__init__", defArgs sNPI, .stmts (defBody sNPI), defScope sNPI, mainGlobals, [], .none, builtinsNs) : Option HT.FnP),
 (some ("has_clerks", "has_clerks", defArgs sHas, .stmts (defBody sHas), defScope sHas, mainGlobals, [], .none, builtinsNs) : Option HT.FnP),
 (some ("fits", "fits", defArgs sFits, .stmts (defBody sFits), defScope sFits, mainGlobals, [], .none, builtinsNs) : Option HT.FnP),
 (some ("look_over", "look_over", defArgs sLookOver, .stmts (defBody sLookOver), defScope sLookOver, mainGlobals, [], .none, builtinsNs) : Option HT.FnP),
 (some ("row_of", "row_of", defArgs sRowOf, .stmts (defBody sRowOf), defScope sRowOf, mainGlobals, [], .none, builtinsNs) : Option HT.FnP),
 (some ("program_text", "program_text", defArgs sProgText, .stmts (defBody sProgText), defScope sProgText, mainGlobals, [], .none, builtinsNs) : Option HT.FnP),
 (some ("is_number", "is_number", defArgs sIsNum, .stmts (defBody sIsNum), defScope sIsNum, mainGlobals, [], .none, builtinsNs) : Option HT.FnP),
 (some ("number_of", "number_of", defArgs sNumOf, .stmts (defBody sNumOf), defScope sNumOf, mainGlobals, [], .none, builtinsNs) : Option HT.FnP),
 (some ("told_of", "told_of", defArgs sToldOf, .stmts (defBody sToldOf), defScope sToldOf, mainGlobals, [], .none, builtinsNs) : Option HT.FnP),
 (some ("parts_of", "parts_of", defArgs sPartsOf, .stmts (defBody sPartsOf), defScope sPartsOf, mainGlobals, [], .none, builtinsNs) : Option HT.FnP),
 (some ("read_program", "read_program", defArgs sReadP, .stmts (defBody sReadP), defScope sReadP, mainGlobals, [], .none, builtinsNs) : Option HT.FnP),
 (some ("_law_cell_at", "_law_cell_at", defArgs sCellAt, .stmts (defBody sCellAt), defScope sCellAt, mainGlobals, [], .none, builtinsNs) : Option HT.FnP),
 (some ("_law_mixed", "_law_mixed", defArgs sMixed, .stmts (defBody sMixed), defScope sMixed, mainGlobals, [], .none, builtinsNs) : Option HT.FnP),
 (some ("_law_step", "_law_step", defArgs sLStep, .stmts (defBody sLStep), defScope sLStep, mainGlobals, [], .none, builtinsNs) : Option HT.FnP),
 (some ("_law_lines", "_law_lines", defArgs sLines, .stmts (defBody sLines), defScope sLines, mainGlobals, [], .none, builtinsNs) : Option HT.FnP),
 (some ("_law_by_word", "_law_by_word", defArgs sByWord, .stmts (defBody sByWord), defScope sByWord, mainGlobals, [], .none, builtinsNs) : Option HT.FnP),
 (some ("_law_by_row", "_law_by_row", defArgs sByRow, .stmts (defBody sByRow), defScope sByRow, mainGlobals, [], .none, builtinsNs) : Option HT.FnP),
 (some ("_law_is_step", "_law_is_step", defArgs sLIs, .stmts (defBody sLIs), defScope sLIs, mainGlobals, [], .none, builtinsNs) : Option HT.FnP),
 (some ("_law_good", "_law_good", defArgs sGood, .stmts (defBody sGood), defScope sGood, mainGlobals, [], .none, builtinsNs) : Option HT.FnP),
 (some ("_law_refused", "_law_refused", defArgs sRefd, .stmts (defBody sRefd), defScope sRefd, mainGlobals, [], .none, builtinsNs) : Option HT.FnP),
 (some ("law", "law", defArgs sLaw, .stmts (defBody sLaw), defScope sLaw, mainGlobals, [], .none, builtinsNs) : Option HT.FnP)]
noncomputable def qv : Program := W.view PySem.Challenge.rw_traylate_k14_texts_of_no_program.prog [0, 2, 3, 4, 5, 6, 7, 9, 10, 11, 12, 13, 14, 15, 16, 17, 18, 19, 20, 21, 22, 23, 24, 26, 27, 28, 29, 31, 32, 33, 34, 35, 36, 37, 38, 39, 40, 42, 43, 44, 45, 46, 47, 48, 49, 50, 51]
def lawPos : Pos := match sLaw with
 | .FunctionDef _ _ _ _ _ _ _ _ _ p => p
 | _ => default
def dl : DefRec := ⟨"law", defArgs sLaw, defBody sLaw, defScope sLaw, lawPos⟩
end TL
open PySem PySem.W PyProof.Rows in
theorem TL.mark_ : True := trivial
section
open PySem PySem.W PyProof.Rows
set_option maxRecDepth 100000 in
set_option maxHeartbeats 0 in
theorem TL.r1 (w : World) (os : OsState) : (HT.ran PySem.Challenge.rw_traylate_k14_texts_of_no_program.row.prog w 8972 os).map (fun s => HT.held PySem.Challenge.rw_traylate_k14_texts_of_no_program.row.prog w.params s.abs) = some true := by kernel_rfl
set_option maxRecDepth 100000 in
set_option maxHeartbeats 0 in
theorem TL.r2 (w : World) (os : OsState) : (HT.ran PySem.Challenge.rw_traylate_k14_texts_of_no_program.row.prog w 8972 os).map (fun s => W.openSeen TL.qv [] (importedModules PySem.Challenge.rw_traylate_k14_texts_of_no_program.row.prog.main.body) (fun s => W.xlAt TL.qv [] s && W.recOk PySem.Challenge.rw_traylate_k14_texts_of_no_program.row.records s) true s.abs) = some (W.openGood TL.qv []) := by kernel_rfl
set_option maxRecDepth 100000 in
set_option maxHeartbeats 0 in
theorem TL.r3 (w : World) (os : OsState) : (HT.ran PySem.Challenge.rw_traylate_k14_texts_of_no_program.row.prog w 8972 os).map (fun s => (HT.kHook2 (fun K => (TL.seen K, TL.seenF K)) (true, TL.goodF)).obs s.abs) = some (true, TL.goodF) := by kernel_rfl
end
namespace L2
open PySem PySem.Spec PyProof.Rows
abbrev Key := Sum Int Str
def keyIs : Key → Value → Bool
 | .inl k, v => Value.isInt k v
 | .inr x, v => Value.isStrOf x v
def keyH (w : World) : Key → Int
 | .inl k => hashInt k
 | .inr x => hashStr w x
theorem keyIs_shape : ∀ {k : Key} {v : Value}, keyIs k v = true → (∃ i t, k = Sum.inl i ∧ v = Value.int i t) ∨ (∃ x t, k = Sum.inr x ∧ v = Value.str x t)
 | .inl i, v, h => by
  obtain ⟨t, e⟩ := Value.isInt_shape (k := i) (v := v) h
  exact .inl ⟨i, t, rfl, e⟩
 | .inr x, v, h => by
  obtain ⟨t, e⟩ := Value.isStrOf_shape (x := x) (v := v) h
  exact .inr ⟨x, t, rfl, e⟩
theorem keyIs_int (i : Int) (t : Tok) : keyIs (.inl i) (.int i t) = true := by simp [keyIs, Value.isInt]
theorem keyIs_str (x : Str) (t : Tok) : keyIs (.inr x) (.str x t) = true := by simp [keyIs, Value.isStrOf]
theorem key_ll (a b : Int) : decide ((Sum.inl a : Key) = Sum.inl b) = (a == b) := by
 by_cases e : a = b
 ·subst e; simp
 ·have h : ¬ (Sum.inl a : Key) = Sum.inl b := fun q => e (Sum.inl.inj q)
  rw [decide_eq_false h]
  exact (beq_eq_false_iff_ne.mpr e).symm
theorem key_rr (a b : Str) : decide ((Sum.inr a : Key) = Sum.inr b) = decide (a = b) := by
 by_cases e : a = b
 ·subst e; simp
 ·have h : ¬ (Sum.inr a : Key) = Sum.inr b := fun q => e (Sum.inr.inj q)
  rw [decide_eq_false h, decide_eq_false e]
theorem key_lr (a : Int) (b : Str) : decide ((Sum.inl a : Key) = Sum.inr b) = false := decide_eq_false (fun q => nomatch q)
theorem key_rl (a : Str) (b : Int) : decide ((Sum.inr a : Key) = Sum.inl b) = false := decide_eq_false (fun q => nomatch q)
def mixKind (prog : Program) (w : World) : PySem.KeyKind prog w Key where
 is := keyIs
 hash := keyH w
 inj := fun v a b ha hb => by
  rcases keyIs_shape ha with ⟨i, t, rfl, rfl⟩ | ⟨x, t, rfl, rfl⟩
  ·rcases keyIs_shape hb with ⟨j, u, rfl, e⟩ | ⟨y, u, rfl, e⟩
   ·injection e with e1 _; rw [e1]
   ·exact nomatch e
  ·rcases keyIs_shape hb with ⟨j, u, rfl, e⟩ | ⟨y, u, rfl, e⟩
   ·exact nomatch e
   ·injection e with e1 _; rw [e1]
 byValue := fun k v h => by
  rcases keyIs_shape h with ⟨i, t, rfl, rfl⟩ | ⟨x, t, rfl, rfl⟩ <;> rfl
 pyHash := fun hv h => by
  rcases keyIs_shape hv with ⟨i, t, rfl, rfl⟩ | ⟨x, t, rfl, rfl⟩
  ·exact wpAny_pyHash_int h
  ·exact wpAny_pyHash_str h
 eqBool := fun hu hv h => by
  rcases keyIs_shape hu with ⟨i, t, rfl, rfl⟩ | ⟨x, t, rfl, rfl⟩
  ·rcases keyIs_shape hv with ⟨j, u, rfl, rfl⟩ | ⟨y, u, rfl, rfl⟩
   ·rw [key_ll] at h; exact wpAny_eqBool_int h
   ·rw [key_lr] at h; exact SeqAt.EqAt.int_str i t y u _ _ _ _ h
  ·rcases keyIs_shape hv with ⟨j, u, rfl, rfl⟩ | ⟨y, u, rfl, rfl⟩
   ·rw [key_rl] at h; exact SeqAt.EqAt.str_int x t j u _ _ _ _ h
   ·rw [key_rr] at h; exact wpAny_eqBool_str h
 «strs» := fun k x t v h => by
  rcases keyIs_shape h with ⟨i, u, rfl, e⟩ | ⟨y, u, rfl, e⟩
  ·exact nomatch e
  ·injection e with e1 _
   subst e1
   cases v <;> rfl
theorem mixKind_int (prog : Program) (w : World) (i : Int) (t : Tok) : (mixKind prog w).is (.inl i) (.int i t) = true := keyIs_int i t
theorem mixKind_str (prog : Program) (w : World) (x : Str) (t : Tok) : (mixKind prog w).is (.inr x) (.str x t) = true := keyIs_str x t
end L2
namespace L2
open PySem PySem.Spec PyProof.Rows
inductive V where
 | non | bl (b : Bool) | int (i : Int) | str (x : Str) | byt (b : Array UInt8) | flt (b : UInt64) | ref (a : Addr) | ty (n : String)
 deriving DecidableEq
def RelV : V → Value → Prop
 | .non, u => u = Value.none
 | .bl b, u => u = Value.bool b
 | .int i, u => ∃ t, u = Value.int i t
 | .str x, u => ∃ t, u = Value.str x t
 | .byt b, u => ∃ t, u = Value.bytes b t
 | .flt b, u => ∃ t, u = Value.float b t
 | .ref a, u => u = Value.ref a
 | .ty n, u => u = Value.type n
abbrev Vals : List V → List Value → Prop := Paired RelV
theorem Vals.length {xs : List V} {us : List Value} (r : Vals xs us) : xs.length = us.length := Paired.length r
theorem Vals.get : ∀ {xs : List V} {us : List Value} {i : Nat} {x : V}, Vals xs us → xs[i]? = some x → ∃ u, us[i]? = some u ∧ RelV x u
 | _, _, _, _, .nil, e => by simp at e
 | _, _, 0, _, .cons r _, e => by simp at e; subst e; exact ⟨_, rfl, r⟩
 | _, _, i + 1, x, .cons _ t, e => by
  obtain ⟨u, h1, h2⟩ := Vals.get (i := i) (x := x) t (by simpa using e)
  exact ⟨u, by simpa using h1, h2⟩
theorem Vals.set {x : V} {u : Value} (r : RelV x u) : ∀ {xs : List V} {us : List Value} (i : Nat), Vals xs us → Vals (xs.set i x) (us.set i u)
 | _, _, _, .nil => .nil
 | _, _, 0, .cons _ t => .cons r t
 | _, _, i + 1, .cons q t => .cons q (Vals.set r i t)
theorem Vals.append : ∀ {xs ys : List V} {us ws : List Value}, Vals xs us → Vals ys ws → Vals (xs ++ ys) (us ++ ws)
 | _, _, _, _, .nil, s => s
 | _, _, _, _, .cons r t, s => .cons r (Vals.append t s)
theorem Vals.take : ∀ {xs : List V} {us : List Value} (n : Nat), Vals xs us → Vals (xs.take n) (us.take n)
 | _, _, 0, _ => .nil
 | _, _, _ + 1, .nil => .nil
 | _, _, n + 1, .cons r t => .cons r (Vals.take n t)
theorem Vals.drop : ∀ {xs : List V} {us : List Value} (n : Nat), Vals xs us → Vals (xs.drop n) (us.drop n)
 | _, _, 0, r => r
 | _, _, _ + 1, .nil => .nil
 | _, _, n + 1, .cons _ t => Vals.drop n t
def RelO : Option V → Option Value → Prop
 | some v, some u => RelV v u
 | none, none => True
 | _, _ => False
def KV {κ : Type} : List (κ × V) → List (κ × Value) → Prop := Paired fun (p : κ × V) (q : κ × Value) => p.1 = q.1 ∧ RelV p.2 q.2
def kV : Key → V
 | .inl i => .int i
 | .inr x => .str x
inductive HO where
  | lst (xs : List V)
  | tup (xs : List V)
  | dK (kvs : List (Key × V)) | dT (kvs : List (List Key × V))
  | set (S : Int → Bool) (n : Nat)
  | ins (C dx : Addr) (fs : List (Str × V))
  | own (x : Addr)
  | xd (fs : List (Str × V))
  | met (f x : Addr)
  | rng (lo hi : Int)
  | frz (o : Obj) (u : HO)
  | tbl (ps : Array Value)
  | ext (φ : Heap → Prop)
abbrev Hp := Addr → Option HO
def upd (H : Hp) (a : Addr) (o : HO) : Hp := fun b => if b = a then some o else H b
theorem upd_same {H : Hp} {a : Addr} {o : HO} : upd H a o a = some o := by unfold upd; rw [if_pos rfl]
theorem upd_ne {H : Hp} {a b : Addr} {o : HO} (h : b ≠ a) : upd H a o b = H b := by unfold upd; rw [if_neg h]
theorem upd_upd {H : Hp} {a : Addr} {o u : HO} : upd (upd H a o) a u = upd H a u := by
 funext b; unfold upd; split <;> rfl
theorem ne_of {H : Hp} {a b : Addr} {o u : HO} (h : H a = some o) (h' : H b = some u) (d : o ≠ u) : a ≠ b := by
 intro e; subst e; rw [h] at h'; exact d (Option.some.inj h')
theorem ne_of_none {H : Hp} {a b : Addr} {o : HO} (h : H a = some o) (h' : H b = none) : a ≠ b := by
 intro e; subst e; rw [h] at h'; cases h'
section
variable (P : Program) (w : World)
def ObjOk (H : Hp) (h : Heap) (a : Addr) : HO → Prop
 | .lst xs => xs.length ≤ sizeLine ∧ ∃ (its : List Value) (n : Nat), Vals xs its ∧ h.get? a = some { cls := .type "list", data := .seq its.toArray n }
 | .tup xs => xs.length ≤ sizeLine ∧ ∃ its : List Value, Vals xs its ∧ IsTup h a its.toArray
 | .dK kvs => kvs.length ≤ sizeLine ∧ (a == sysModules) = false ∧ ∃ vs, KV kvs vs ∧ h.DictOf (mixKind P w) a vs
 | .dT kvs => kvs.length ≤ sizeLine ∧ (a == sysModules) = false ∧ ∃ xs : List (List Key × Addr × Value),
   Paired (fun (p : List Key × V) (q : List Key × Addr × Value) => p.1 = q.1 ∧ H q.2.1 = some (.tup (p.1.map kV)) ∧ RelV p.2 q.2.2) kvs xs ∧
   ∃ o es ep, h.get? a = some o ∧ o.ExactDict ∧ o.data = .dict es ep ∧ es.toList = xs.map (entryOfKey (tupleKind (mixKind P w))) ∧ (xs.map (·.1)).Nodup
 | .set S n => h.SetOf (intKind P w) a S n
 | .ins C dx fs => H dx = some (.own a) ∧ fs.length ≤ 1000 ∧ dx ≠ a ∧ h.get? a = some (W.instObj C dx) ∧
   ∃ mA, h.Ns1 dx mA ∧ (∀ f, RelO (fs.lookup f) (mA f)) ∧ PySem.Within mA (fs.map (·.1))
 | .own _ => ∃ o, h.get? a = some o
 | .xd fs => ∃ mA, h.Ns1 a mA ∧ ∀ f, RelO (fs.lookup f) (mA f)
 | .rng lo hi => ∃ t u v, h.get? a = some { cls := .type "range", data := .fields #[.int lo t, .int hi u, .int 1 v] }
 | .frz o u => h.get? a = some o ∧ ObjOk H h a u
 | .tbl ps => h.get? a = some { cls := .none, data := .fields ps }
 | .met f x => h.get? a = some (W.methodObj (.ref f) (.ref x))
 | .ext φ => φ h ∧ (∃ o, h.get? a = some o) ∧ ∀ h1 h2 : Heap, φ h1 → (∀ o, h1.get? a = some o → h2.get? a = some o) → φ h2
def HOk (H : Hp) (h : Heap) : Prop := ∀ a o, H a = some o → ObjOk P w H h a o
end
section
variable {P : Program} {w : World} {H H' : Hp} {h h' : Heap} {a : Addr} {o : HO}
theorem ObjOk.lt (x : ObjOk P w H h a o) : a < h.objs.size := by
 cases o with
 | lst xs => obtain ⟨_, _, _, _, e⟩ := x; exact Heap.lt_size e
 | tup xs => obtain ⟨_, _, _, p⟩ := x; exact p.lt
 | dK kvs => obtain ⟨_, _, _, _, o, _, _, e, _⟩ := x; exact Heap.lt_size e
 | dT kvs => obtain ⟨_, _, _, _, o, _, _, e, _⟩ := x; exact Heap.lt_size e
 | set S n => obtain ⟨o, _, _, _, e, _⟩ := x; exact Heap.lt_size e
 | ins C dx fs => obtain ⟨_, _, _, e, _⟩ := x; exact Heap.lt_size e
 | own y => obtain ⟨_, e⟩ := x; exact Heap.lt_size e
 | xd fs => obtain ⟨_, ⟨_, _, _, e, _⟩, _⟩ := x; exact Heap.lt_size e
 | rng lo hi => obtain ⟨_, _, _, e⟩ := x; exact Heap.lt_size e
 | frz ob u => obtain ⟨e, _⟩ := x; exact Heap.lt_size e
 | tbl ps => exact Heap.lt_size (show h.get? a = some _ from x)
 | met f y => exact Heap.lt_size (show h.get? a = some _ from x)
 | ext φ => obtain ⟨_, ⟨_, e⟩, _⟩ := x; exact Heap.lt_size e
theorem Paired.mapP {α β : Type} {F G : α → β → Prop} : ∀ {l₁ : List α} {l₂ : List β}, Paired F l₁ l₂ → (∀ a b, F a b → G a b) → Paired G l₁ l₂
 | _, _, .nil, _ => .nil
 | _, _, .cons r t, f => .cons (f _ _ r) (Paired.mapP t f)
theorem ObjOk.stay (x : ObjOk P w H h a o) (k : ∀ b u, (b = a ∨ H b = some (.own a)) → h.get? b = some u → h'.get? b = some u)
  (ho : ∀ b, H b = some (.own a) → H' b = some (.own a)) (ht : ∀ b xs, H b = some (.tup xs) → H' b = some (.tup xs)) : ObjOk P w H' h' a o := by
 induction o with
 | lst xs => obtain ⟨z, its, n, r, e⟩ := x; exact ⟨z, its, n, r, k _ _ (.inl rfl) e⟩
 | tup xs => obtain ⟨z, its, r, ob, e, c⟩ := x; exact ⟨z, its, r, ob, k _ _ (.inl rfl) e, c⟩
 | dK kvs => obtain ⟨z, y, vs, r, ob, es, ep, e, c⟩ := x; exact ⟨z, y, vs, r, ob, es, ep, k _ _ (.inl rfl) e, c⟩
 | dT kvs =>
  obtain ⟨z, y, xs, r, ob, es, ep, e, c⟩ := x
  exact ⟨z, y, xs, Paired.mapP r fun p q z => ⟨z.1, ht _ _ z.2.1, z.2.2⟩, ob, es, ep, k _ _ (.inl rfl) e, c⟩
 | set S n => obtain ⟨ob, es, ep, t, e, c⟩ := x; exact ⟨ob, es, ep, t, k _ _ (.inl rfl) e, c⟩
 | ins C dx fs =>
  obtain ⟨d, z, ne, e, mA, ⟨od, es, ep, e2, c⟩, r⟩ := x
  exact ⟨ho _ d, z, ne, k _ _ (.inl rfl) e, mA, ⟨od, es, ep, k _ _ (.inr d) e2, c⟩, r⟩
 | own y => obtain ⟨ob, e⟩ := x; exact ⟨ob, k _ _ (.inl rfl) e⟩
 | xd fs => obtain ⟨mA, ⟨od, es, ep, e, c⟩, r⟩ := x; exact ⟨mA, ⟨od, es, ep, k _ _ (.inl rfl) e, c⟩, r⟩
 | rng lo hi => obtain ⟨t, u, v, e⟩ := x; exact ⟨t, u, v, k _ _ (.inl rfl) e⟩
 | frz ob u ih => obtain ⟨e, q⟩ := x; exact ⟨k _ _ (.inl rfl) e, ih q⟩
 | tbl ps =>
  have e : h.get? a = some { cls := .none, data := .fields ps } := x
  show h'.get? a = some { cls := .none, data := .fields ps }
  exact k a _ (.inl rfl) e
 | met f y =>
  have e : h.get? a = some (W.methodObj (.ref f) (.ref y)) := x
  show h'.get? a = some (W.methodObj (.ref f) (.ref y))
  exact k a _ (.inl rfl) e
 | ext φ => obtain ⟨p, ⟨o, e⟩, st⟩ := x; exact ⟨st _ _ p fun o q => k _ _ (.inl rfl) q, ⟨o, k _ _ (.inl rfl) e⟩, st⟩
theorem HOk.lt (x : HOk P w H h) (e : H a = some o) : a < h.objs.size := (x a o e).lt
theorem HOk.fresh (x : HOk P w H h) (e : h.objs.size ≤ a) : H a = none := by
 cases q : H a with
 | none => rfl
 | some u => exact absurd (Nat.lt_of_lt_of_le (x.lt q) e) (Nat.lt_irrefl _)
theorem HOk.kept (x : HOk P w H h) (k : ∀ b u, h.get? b = some u → h'.get? b = some u) : HOk P w H h' := fun a o e =>
 (x a o e).stay (fun b u _ q => k b u q) (fun _ q => q) fun _ _ q => q
theorem HOk.laid (x : HOk P w H h) (k : ∀ b u, h.get? b = some u → h'.get? b = some u) (hp : h.objs.size ≤ a) (new : ObjOk P w (upd H a o) h' a o) : HOk P w (upd H a o) h' := fun b u e => by
 have hn := x.fresh hp
 by_cases hb : b = a
 ·subst hb; rw [upd_same] at e; cases e; exact new
 ·rw [upd_ne hb] at e
  exact (x b u e).stay (fun c v _ q => k c v q) (fun c q => by rw [upd_ne (ne_of_none q hn)]; exact q) fun c xs q => by rw [upd_ne (ne_of_none q hn)]; exact q
end
def Rd (H : Hp) (a : Addr) (u : HO) : Prop := H a = some u ∨ ∃ o, H a = some (.frz o u)
theorem Rd.ok {P : Program} {w : World} {H : Hp} {h : Heap} {a : Addr} {u : HO} (r : Rd H a u) (x : HOk P w H h) : ObjOk P w H h a u := by
 rcases r with r | ⟨o, r⟩
 ·exact x a u r
 ·obtain ⟨_, q⟩ := x a _ r
  exact q
def Mut : Option HO → Prop
 | some (.lst _) => True
 | some (.dK _) => True
 | some (.dT _) => True
 | some (.set _ _) => True
 | some (.ins _ _ _) => True
 | some (.ext _) => True
 | _ => False
section
variable {P : Program} {w : World} {H : Hp} {h h' : Heap} {x e : Addr} {o' : HO}
theorem HOk.write (ok : HOk P w H h) (mu : Mut (H x)) (he : e = x ∨ H e = some (.own x)) (k : ∀ b u, b ≠ e → h.get? b = some u → h'.get? b = some u) (heo : ∃ u, h'.get? e = some u)
  (new : ObjOk P w (upd H x o') h' x o') : HOk P w (upd H x o') h' := fun b u q => by
 have nown : ∀ c y, H c = some (.own y) → c ≠ x := fun c y r z => by subst z; rw [r] at mu; exact mu
 have ntup : ∀ c xs, H c = some (.tup xs) → c ≠ x := fun c xs r z => by subst z; rw [r] at mu; exact mu
 by_cases hb : b = x
 ·subst hb; rw [upd_same] at q; cases q; exact new
 ·rw [upd_ne hb] at q
  by_cases hbe : b = e
  ·have q' : H b = some (.own x) := by
    rcases he with z | z
    ·exact absurd (hbe.trans z) hb
    ·rw [hbe]; exact z
   rw [q] at q'; cases q'
   obtain ⟨v, hv⟩ := heo
   exact ⟨v, by rw [hbe]; exact hv⟩
  ·refine (ok b u q).stay (fun c v hc r => k c v ?_ r) (fun c r => by rw [upd_ne (nown c b r)]; exact r) fun c xs r => by rw [upd_ne (ntup c xs r)]; exact r
   rcases hc with rfl | hc
   ·exact hbe
   ·rintro rfl
    rcases he with z | z
    ·exact nown c b hc z
    ·rw [hc] at z; cases z; exact hb rfl
end
structure Un (fs ex : List Addr) (H H' : Hp) (h h' : Heap) : Prop where
 keep : ∀ b o, h.get? b = some o → H b = none → b ∉ fs → b ∉ ex → h'.get? b = some o
 slot : ∀ b o, h.get? b = some o → H b = none → b ∈ fs → b ∉ ex → ∃ sl, h'.get? b = some { o with slots := sl }
 free : ∀ b o, h.get? b = some o → H b = none → b ∉ ex → H' b = none
 there : ∀ b o, h.get? b = some o → b ∉ ex → ∃ o', h'.get? b = some o'
 tups : ∀ b xs, H b = some (.tup xs) → H' b = some (.tup xs)
 frzs : ∀ b o u, H b = some (.frz o u) → H' b = some (.frz o u)
 tbls : ∀ b ps, H b = some (.tbl ps) → ∃ more, H' b = some (.tbl (ps ++ more))
section
variable {fs fs' ex ex' : List Addr} {H H1 H2 : Hp} {h h1 h2 h' : Heap} {a x e : Addr} {o : HO}
theorem Un.any (u : Un fs ex H H1 h h1) {b : Addr} {ob : Obj} (q : h.get? b = some ob) (n : H b = none) (hx : b ∉ ex) : ∃ sl, h1.get? b = some { ob with slots := sl } := by
 by_cases hb : b ∈ fs
 ·exact u.slot b ob q n hb hx
 ·exact ⟨ob.slots, u.keep b ob q n hb hx⟩
theorem Un.kept (k : ∀ b u, h.get? b = some u → h'.get? b = some u) : Un fs ex H H h h' :=
 ⟨fun b ob q _ _ _ => k b ob q, fun b ob q _ _ _ => ⟨ob.slots, k b ob q⟩, fun _ _ _ n _ => n, fun b ob q _ => ⟨ob, k b ob q⟩, fun _ _ q => q, fun _ _ _ q => q, fun _ ps q => ⟨#[], by rw [q]; simp⟩⟩
theorem Un.refl : Un fs ex H H h h := Un.kept fun _ _ q => q
theorem Un.laid (k : ∀ b u, h.get? b = some u → h'.get? b = some u) (hp : h.objs.size ≤ a) (hn : H a = none) : Un fs ex H (upd H a o) h h' where
 keep := fun b u q _ _ _ => k b u q
 slot := fun b u q _ _ _ => ⟨u.slots, k b u q⟩
 free := fun b u q n _ => by rw [upd_ne (Nat.ne_of_lt (Nat.lt_of_lt_of_le (Heap.lt_size q) hp))]; exact n
 there := fun b u q _ => ⟨u, k b u q⟩
 tups := fun b xs q => by rw [upd_ne (ne_of_none q hn)]; exact q
 frzs := fun b u xs q => by rw [upd_ne (ne_of_none q hn)]; exact q
 tbls := fun b ps q => ⟨#[], by rw [upd_ne (ne_of_none q hn), q]; simp⟩
theorem Un.write (mu : Mut (H x)) (he : e = x ∨ H e = some (.own x)) (k : ∀ b u, b ≠ e → h.get? b = some u → h'.get? b = some u) (heo : ∃ u, h'.get? e = some u) : Un fs ex H (upd H x o) h h' := by
 have hx : ∀ b, H b = none → b ≠ x := fun b n z => by subst z; rw [n] at mu; exact mu
 have hb : ∀ b, H b = none → b ≠ e := fun b n z => by
  subst z
  rcases he with r | r
  ·exact hx b n r
  ·rw [n] at r; cases r
 have hm : ∀ b u, H b = some u → ¬ Mut (some u) → b ≠ x := fun b u q nm z => by subst z; rw [q] at mu; exact nm mu
 refine ⟨fun b u q n _ _ => k b u (hb b n) q, fun b u q n _ _ => ⟨u.slots, k b u (hb b n) q⟩, fun b u q n _ => by rw [upd_ne (hx b n)]; exact n, fun b u q _ => ?_,
  fun b xs q => by rw [upd_ne (hm b _ q fun z => z)]; exact q, fun b u xs q => by rw [upd_ne (hm b _ q fun z => z)]; exact q, fun b ps q => ⟨#[], by rw [upd_ne (hm b _ q fun z => z), q]; simp⟩⟩
 by_cases hbe : b = e
 ·subst hbe; exact heo
 ·exact ⟨u, k b u hbe q⟩
end
def trk (h : Heap) (H : Hp) : List Addr := (List.range h.objs.size).filter fun a => (H a).isSome
def hidT (h : Heap) (H : Hp) : Heap := W.hideAll h (trk h H)
theorem hidT_size (h : Heap) (H : Hp) : (hidT h H).objs.size = h.objs.size := W.hideAll_size _ _
theorem hidT_get {h : Heap} {H : Hp} {b : Addr} {o : Obj} (e : h.get? b = some o) (n : H b = none) : (hidT h H).get? b = some o :=
 W.hideAll_get _ e fun hm => by
  have q : (H b).isSome = true := (List.mem_filter.mp hm).2
  rw [n] at q; simp at q
theorem of_hidT {h : Heap} {H : Hp} {b : Addr} {o : Obj} (e : (hidT h H).get? b = some o) : h.get? b = some o ∧ H b = none := by
 have e' : h.get? b = some o := W.of_hideAll (trk h H) e
 refine ⟨e', ?_⟩
 cases q : H b with
 | none => rfl
 | some x =>
  have hm : b ∈ trk h H := List.mem_filter.mpr ⟨List.mem_range.mpr (Heap.lt_size e'), by simp [q]⟩
  have z : (hidT h H).get? b = none := W.hideAll_none (trk h H) hm
  rw [z] at e; cases e
end L2
namespace L2
open PySem PySem.Spec PyProof.Rows
structure Mod (K : W.Frag) (mg : Str → Option Value) (base : Heap) : Prop where
 kin : K.In base
 glob : base.Ns mainGlobals mg
 blt : ∃ mb, base.Ns builtinsNs mb ∧ ∀ x : Str, x ≠ "__name__" → mb x = bootBuiltins x
 nolimit : base.NoLimit
structure Cx where
 prog : Program
 w : World
 K : W.Frag
 mg : Str → Option Value
 base : Heap
 A : Around
 N : List Str
 s₀ : Shared
 H₀ : Hp
 env : Env
 outer : List Env
 stack : List Env
 ex : List Addr
 fn : Str → Bool
 calm : Bool
 pn : List (Addr × Obj)
 xe : Value → Shared → Prop
def frs (l : List Env) : List Addr := l.filterMap (·.frame)
abbrev Cx.fs (X : Cx) : List Addr := frs X.outer
def Vis (sc : Scope) (x : Str) : Prop := sc.names.lookup x = some .local ∨ sc.names.lookup x = some .cell ∨ sc.names.lookup x = some .free
def Loc (sc : Scope) (x : Str) : Prop := sc.names.lookup x = some .local ∨ sc.names.lookup x = some .cell
def Look (env : Env) (h : Heap) (m : Str → Option Value) (x : Str) (u : Value) : Prop :=
 (env.kindOf x = some .local ∧ m x = some u) ∨ ((env.kindOf x = some .cell ∨ env.kindOf x = some .free) ∧ ∃ c, env.cells.lookup x = some c ∧ h.IsCell c (some u))
structure Cx.Ok (X : Cx) : Prop where
 mod : Mod X.K X.mg X.base
 kind : X.env.scope.kind = .function
 glob : X.env.globals = mainGlobals
 blt : X.env.builtins = builtinsNs
 above : X.s₀.heap.objs.size ≤ X.env.locals
 inj : ∀ x y c, X.env.cells.lookup x = some c → X.env.cells.lookup y = some c → x = y
 has : ∀ x, (X.env.kindOf x = some .cell ∨ X.env.kindOf x = some .free) → ∃ c, X.env.cells.lookup x = some c
 cab : ∀ x c, X.fn x = true → X.env.cells.lookup x = some c → X.s₀.heap.objs.size ≤ c
 hd : X.calm = true → X.A.handled = none
 frames : X.A.frames = some X.stack
 stk : X.stack = X.outer ∨ (X.stack = X.env :: X.outer ∧ X.env.frame = some X.env.locals)
 exf : ∀ b ∈ X.ex, b ≠ X.env.locals ∧ ∀ x c, X.env.cells.lookup x = some c → c ≠ b
 bs : ∀ b o, X.base.get? b = some o → X.s₀.heap.get? b = some o ∧ X.H₀ b = none
 bsz : X.base.objs.size ≤ X.s₀.heap.objs.size
 noex : ∀ b o, X.base.get? b = some o → b ∉ X.ex
 exfs : ∀ b ∈ X.ex, b ∉ X.fs
 funs : X.s₀.heap.FunFrames X.base X.outer
 frf : ∀ b ∈ X.fs, X.H₀ b = none
structure Inv (X : Cx) (pins : List (Addr × Obj)) (σ : List (Option V)) (H : Hp) (s : Shared) : Prop where
 ok : X.Ok
 os : s.os = X.s₀.os
 bare : AllBare s.gens
 base : Un X.fs X.ex X.H₀ H X.s₀.heap s.heap
 loc : ∃ m, s.heap.Ns X.env.locals m ∧ ∀ (i : Nat) (x : Str) (v : V), X.N[i]? = some x → σ[i]? = some (some v) → Vis X.env.scope x → ∃ u, RelV v u ∧ Look X.env s.heap m x u
 cell : ∀ x c, X.env.cells.lookup x = some c → ∃ v, s.heap.IsCell c v
 free : H X.env.locals = none
 freeC : ∀ x c, X.env.cells.lookup x = some c → H c = none
 pin : ∀ p ∈ X.pn ++ pins, s.heap.get? p.1 = some p.2 ∧ H p.1 = none ∧ p.1 ≠ X.env.locals ∧ p.1 ∉ X.fs ∧ ∀ v, p.2.data ≠ .cell v
 hok : HOk X.prog X.w H s.heap
 len : σ.length = X.N.length
section
variable {X : Cx} {pins : List (Addr × Obj)} {σ : List (Option V)} {H H' : Hp} {s : Shared} {h' : Heap}
theorem Cx.Ok.nofr (ok : X.Ok) {b : Addr} {o : Obj} (e : X.base.get? b = some o) : b ∉ X.fs := fun hb => by
 have := (ok.funs.mem hb).1
 rw [e] at this; cases this
theorem Inv.bs (I : Inv X pins σ H s) : ∀ b o, X.base.get? b = some o → s.heap.get? b = some o ∧ H b = none := fun b o e =>
 ⟨I.base.keep b o (I.ok.bs b o e).1 (I.ok.bs b o e).2 (I.ok.nofr e) (I.ok.noex b o e), I.base.free b o (I.ok.bs b o e).1 (I.ok.bs b o e).2 (I.ok.noex b o e)⟩
theorem Inv.bk (I : Inv X pins σ H s) : ∀ b o, X.base.get? b = some o → s.heap.get? b = some o := fun b o e => (I.bs b o e).1
theorem Inv.mod (I : Inv X pins σ H s) : Mod X.K X.mg X.base := I.ok.mod
theorem Inv.kIn (I : Inv X pins σ H s) : X.K.In s.heap := I.ok.mod.kin.keeps I.bk
theorem Inv.lt (I : Inv X pins σ H s) : X.env.locals < s.heap.objs.size := let ⟨_, hn, _⟩ := I.loc; hn.lt
theorem Inv.sz (I : Inv X pins σ H s) : X.s₀.heap.objs.size ≤ s.heap.objs.size := Nat.le_trans I.ok.above (Nat.le_of_lt I.lt)
theorem Inv.nofs (I : Inv X pins σ H s) {a : Addr} (h : s.heap.objs.size ≤ a) : a ∉ X.fs := fun hb => by
 obtain ⟨_, o, ho, _⟩ := I.ok.funs.mem hb
 exact absurd (Nat.lt_of_lt_of_le (Heap.lt_size ho) (Nat.le_trans I.sz h)) (Nat.lt_irrefl _)
theorem Inv.cne (I : Inv X pins σ H s) : ∀ x c, X.env.cells.lookup x = some c → c ≠ X.env.locals := fun x c e z => by
 obtain ⟨v, o, ho, hd⟩ := I.cell x c e
 obtain ⟨m, ⟨o', es, ep, ho', hd', _⟩, _⟩ := I.loc
 rw [z, ho'] at ho; cases ho; rw [hd'] at hd; cases hd
theorem Inv.funs (I : Inv X pins σ H s) : s.heap.FunFrames X.base X.outer := by
 have all : ∀ (l : List Env), (∀ b ∈ frs l, b ∈ X.fs) → X.s₀.heap.FunFrames X.base l → s.heap.FunFrames X.base l := by
  intro l
  induction l with
  | nil => intro _ _; trivial
  | cons env r ih =>
   intro hs hl
   obtain ⟨hk, ⟨L, o, hf, hn, ho, hd⟩, hr⟩ := hl
   have hL : L ∈ X.fs := hs L (by unfold frs; rw [List.filterMap_cons, hf]; exact List.mem_cons_self)
   obtain ⟨sl, e⟩ := I.base.slot L o ho (I.ok.frf L hL) hL fun z => I.ok.exfs L z hL
   exact ⟨hk, ⟨L, _, hf, hn, e, hd⟩, ih (fun b hb => hs b (by unfold frs; rw [List.filterMap_cons, hf]; exact List.mem_cons_of_mem _ hb)) hr⟩
 exact all X.outer (fun _ hb => hb) I.ok.funs
theorem Inv.stack (I : Inv X pins σ H s) : s.heap.FunFrames X.base X.stack := by
 rcases I.ok.stk with e | ⟨e, hf⟩
 ·rw [e]; exact I.funs
 ·rw [e]
  obtain ⟨m, hn, _⟩ := I.loc
  refine .cons (by rw [I.ok.kind]; decide) hf hn ?_ I.funs
  exact Heap.get?_none_of_le (Nat.le_trans I.ok.bsz I.ok.above)
theorem Inv.stkSub (I : Inv X pins σ H s) : ∀ b ∈ frs X.stack, b ∈ X.env.locals :: X.fs := fun b hb => by
 rcases I.ok.stk with e | ⟨e, hf⟩
 ·rw [e] at hb; exact List.mem_cons_of_mem _ hb
 ·rw [e] at hb
  unfold frs at hb
  rw [List.filterMap_cons, hf] at hb
  exact hb
theorem Inv.stkFree (I : Inv X pins σ H s) : ∀ b ∈ frs X.stack, H b = none := fun b hb => by
 rcases List.mem_cons.mp (I.stkSub b hb) with e | hb
 ·rw [e]; exact I.free
 ·obtain ⟨_, o, ho, _⟩ := I.ok.funs.mem hb
  exact I.base.free b o ho (I.ok.frf b hb) fun z => I.ok.exfs b z hb
theorem Inv.step {g' : Array GenState} {t' : Nat} {d' : Drawn} {ch : List Addr} (I : Inv X pins σ H s)
  (hch : ∀ b ∈ ch, (b ∈ X.ex ∨ X.s₀.heap.objs.size ≤ b) ∧ b ≠ X.env.locals ∧ (∀ x c, X.env.cells.lookup x = some c → c ≠ b) ∧ ∀ p ∈ X.pn ++ pins, p.1 ≠ b)
  (keep : ∀ b o, b ≠ X.env.locals → b ∉ X.fs → b ∉ ch → s.heap.get? b = some o → H b = none → h'.get? b = some o)
  (slot : ∀ b o, b ≠ X.env.locals → b ∈ X.fs → b ∉ ch → s.heap.get? b = some o → H b = none → ∃ sl, h'.get? b = some { o with slots := sl }) (free : ∀ b o, b ∉ ch → s.heap.get? b = some o → H b = none → H' b = none)
  (there : ∀ b o, b ∉ ch → s.heap.get? b = some o → ∃ o', h'.get? b = some o')
  (tups : ∀ b xs, H b = some (.tup xs) → H' b = some (.tup xs)) (frzs : ∀ b o u, H b = some (.frz o u) → H' b = some (.frz o u)) (tbls : ∀ b ps, H b = some (.tbl ps) → ∃ more, H' b = some (.tbl (ps ++ more)))
  (ns : ∀ m, s.heap.Ns X.env.locals m → h'.Ns X.env.locals m) (hok : HOk X.prog X.w H' h') (hg : AllBare g') :
  Inv X pins σ H' { s with heap := h', gens := g', drawn := d', toks := t' } := by
 have neL : ∀ b o, X.s₀.heap.get? b = some o → b ≠ X.env.locals := fun b o e => Nat.ne_of_lt (Nat.lt_of_lt_of_le (Heap.lt_size e) I.ok.above)
 have neC : ∀ b o, X.s₀.heap.get? b = some o → b ∉ X.ex → b ∉ ch := fun b o e hx hb => by
  rcases (hch b hb).1 with z | z
  ·exact hx z
  ·exact absurd (Nat.lt_of_lt_of_le (Heap.lt_size e) z) (Nat.lt_irrefl _)
 have cellK : ∀ x c, X.env.cells.lookup x = some c → ∀ v, s.heap.IsCell c v → h'.IsCell c v := fun x c e v ⟨o, ho, hd⟩ => by
  have nch : c ∉ ch := fun z => (hch c z).2.2.1 x c e rfl
  by_cases hc : c ∈ X.fs
  ·obtain ⟨sl, q⟩ := slot c o (I.cne x c e) hc nch ho (I.freeC x c e)
   exact ⟨_, q, hd⟩
  ·exact ⟨o, keep c o (I.cne x c e) hc nch ho (I.freeC x c e), hd⟩
 refine ⟨I.ok, I.os, hg, ⟨fun b o e n hb hx => ?_, fun b o e n hb hx => ?_, fun b o e n hx => ?_, fun b o e hx => ?_, fun b xs e => tups b xs (I.base.tups b xs e), fun b o xs e => frzs b o xs (I.base.frzs b o xs e), fun b ps e => ?_⟩, ?_, fun x c e => ?_, ?_, fun x c e => ?_, fun p hp => ?_, hok, I.len⟩
 ·exact keep b o (neL b o e) hb (neC b o e hx) (I.base.keep b o e n hb hx) (I.base.free b o e n hx)
 ·obtain ⟨sl, e1⟩ := I.base.slot b o e n hb hx
  obtain ⟨sl', e2⟩ := slot b _ (neL b o e) hb (neC b o e hx) e1 (I.base.free b o e n hx)
  exact ⟨sl', e2⟩
 ·obtain ⟨o', e1⟩ := I.base.there b o e hx
  exact free b o' (neC b o e hx) e1 (I.base.free b o e n hx)
 ·obtain ⟨o', e1⟩ := I.base.there b o e hx
  exact there b o' (neC b o e hx) e1
 ·obtain ⟨m1, e1⟩ := I.base.tbls b ps e
  obtain ⟨m2, e2⟩ := tbls b _ e1
  exact ⟨m1 ++ m2, by rw [e2, Array.append_assoc]⟩
 ·obtain ⟨m, hn, hl⟩ := I.loc
  refine ⟨m, ns m hn, fun i x v e1 e2 e3 => ?_⟩
  obtain ⟨u, r, l⟩ := hl i x v e1 e2 e3
  refine ⟨u, r, ?_⟩
  rcases l with l | ⟨k, c, e, z⟩
  ·exact .inl l
  ·exact .inr ⟨k, c, e, cellK x c e _ z⟩
 ·obtain ⟨v, z⟩ := I.cell x c e
  exact ⟨v, cellK x c e v z⟩
 ·obtain ⟨m, ⟨o, _, _, ho, _⟩, _⟩ := I.loc
  exact free _ o (fun z => (hch _ z).2.1 rfl) ho I.free
 ·obtain ⟨v, o, ho, hd⟩ := I.cell x c e
  exact free c o (fun z => (hch c z).2.2.1 x c e rfl) ho (I.freeC x c e)
 ·obtain ⟨e, n, ne, nf, d⟩ := I.pin p hp
  have nch : p.1 ∉ ch := fun z => (hch p.1 z).2.2.2 p hp rfl
  exact ⟨keep p.1 p.2 ne nf nch e n, free p.1 p.2 nch e n, ne, nf, d⟩
theorem Inv.un {t' : Nat} (I : Inv X pins σ H s) (u : Un X.fs [] H H' s.heap h') (hok : HOk X.prog X.w H' h') : Inv X pins σ H' { s with heap := h', toks := t' } := by
 obtain ⟨m, ⟨o, es, ep, ho, r⟩, _⟩ := id I.loc
 obtain ⟨sl, hL⟩ := u.any ho I.free (by simp)
 exact I.step (g' := s.gens) (d' := s.drawn) (ch := []) (fun _ z => nomatch z) (fun b o _ hb _ e n => u.keep b o e n hb (by simp)) (fun b o _ hb _ e n => u.slot b o e n hb (by simp)) (fun b o _ e n => u.free b o e n (by simp)) (fun b o _ e => u.there b o e (by simp)) u.tups u.frzs u.tbls (fun m' hm => by
  obtain ⟨o', es', ep', ho', r'⟩ := hm
  rw [ho] at ho'; cases ho'
  exact ⟨_, es', ep', hL, r'⟩) hok I.bare
theorem Inv.call {g' : Array GenState} {t' : Nat} {d' : Drawn} {ch : List Addr} (I : Inv X pins σ H s) (u : Un (frs X.stack) ch H H' s.heap h') (hok : HOk X.prog X.w H' h') (hg : AllBare g')
  (hch : ∀ b ∈ ch, (b ∈ X.ex ∨ X.s₀.heap.objs.size ≤ b) ∧ b ≠ X.env.locals ∧ (∀ x c, X.env.cells.lookup x = some c → c ≠ b) ∧ ∀ p ∈ X.pn ++ pins, p.1 ≠ b) :
  Inv X pins σ H' { s with heap := h', gens := g', drawn := d', toks := t' } := by
 obtain ⟨m, ⟨o, es, ep, ho, r⟩, _⟩ := id I.loc
 obtain ⟨sl, hL⟩ := u.any ho I.free fun z => (hch _ z).2.1 rfl
 exact I.step (ch := ch) hch (fun b o hL hb hc e n => u.keep b o e n (fun z => (List.mem_cons.mp (I.stkSub b z)).elim hL hb) hc) (fun b o _ _ hc e n => u.any e n hc) (fun b o hc e n => u.free b o e n hc) (fun b o hc e => u.there b o e hc) u.tups u.frzs u.tbls (fun m' hm => by
  obtain ⟨o', es', ep', ho', r'⟩ := hm
  rw [ho] at ho'; cases ho'
  exact ⟨_, es', ep', hL, r'⟩) hok hg
theorem Inv.turned {t' : Nat} {it : Addr} (I : Inv X pins σ H s) (k : ∀ b o, b ≠ it → s.heap.get? b = some o → h'.get? b = some o) (hn : H it = none) (hL : it ≠ X.env.locals)
  (h1 : it ∈ X.ex ∨ X.s₀.heap.objs.size ≤ it) (h2 : ∀ x c, X.env.cells.lookup x = some c → c ≠ it) (h3 : ∀ p ∈ X.pn ++ pins, p.1 ≠ it) : Inv X pins σ H { s with heap := h', toks := t' } := by
 have nit : ∀ b u, H b = some u → b ≠ it := fun b u e z => by rw [z, hn] at e; cases e
 refine I.step (g' := s.gens) (d' := s.drawn) (ch := [it]) (fun b hb => ?_) (fun b o _ _ hc e _ => k b o (fun z => hc (by simp [z])) e) (fun b o _ _ hc e _ => ⟨o.slots, k b o (fun z => hc (by simp [z])) e⟩) (fun _ _ _ _ n => n)
  (fun b o hc e => ⟨o, k b o (fun z => hc (by simp [z])) e⟩) (fun _ _ e => e) (fun _ _ _ e => e) (fun b ps e => ⟨#[], by rw [e]; simp⟩) (fun m hm => ?_) (fun b u e => ?_) I.bare
 ·have e : b = it := by simpa using hb
  subst e
  exact ⟨h1, hL, h2, h3⟩
 ·obtain ⟨o, es, ep, ho, r⟩ := hm
  exact ⟨o, es, ep, k _ o (Ne.symm hL) ho, r⟩
 ·refine (I.hok b u e).stay (fun c v hc q => k c v ?_ q) (fun _ q => q) fun _ _ q => q
  rcases hc with z | z
  ·rw [z]; exact nit b u e
  ·exact nit c _ z
theorem Inv.tok (I : Inv X pins σ H s) (t : Nat) : Inv X pins σ H { s with toks := t } := I.un (h' := s.heap) (t' := t) Un.refl I.hok
theorem Inv.kept {t' : Nat} (I : Inv X pins σ H s) (k : ∀ b u, s.heap.get? b = some u → h'.get? b = some u) : Inv X pins σ H { s with heap := h', toks := t' } := I.un (Un.kept k) (I.hok.kept k)
theorem Inv.laid {a : Addr} {o : HO} {t' : Nat} (I : Inv X pins σ H s) (k : ∀ b u, s.heap.get? b = some u → h'.get? b = some u) (hp : s.heap.objs.size ≤ a) (new : ObjOk X.prog X.w (upd H a o) h' a o) :
  Inv X pins σ (upd H a o) { s with heap := h', toks := t' } := I.un (Un.laid k hp (I.hok.fresh hp)) (I.hok.laid k hp new)
theorem Inv.write {x e : Addr} {o : HO} {t' : Nat} (I : Inv X pins σ H s) (mu : Mut (H x)) (he : e = x ∨ H e = some (.own x)) (k : ∀ b u, b ≠ e → s.heap.get? b = some u → h'.get? b = some u) (heo : ∃ u, h'.get? e = some u)
  (new : ObjOk X.prog X.w (upd H x o) h' x o) : Inv X pins σ (upd H x o) { s with heap := h', toks := t' } := I.un (Un.write mu he k heo) (I.hok.write mu he k heo new)
theorem Inv.weak {σ' : List (Option V)} (I : Inv X pins σ H s) (hl : σ'.length = σ.length) (w : ∀ (i : Nat) v, σ'[i]? = some (some v) → σ[i]? = some (some v)) : Inv X pins σ' H s :=
 ⟨I.ok, I.os, I.bare, I.base, let ⟨m, hn, hl'⟩ := I.loc; ⟨m, hn, fun i x v e1 e2 e3 => hl' i x v e1 (w i v e2) e3⟩, I.cell, I.free, I.freeC, I.pin, I.hok, hl.trans I.len⟩
theorem Inv.pins_of {pins' : List (Addr × Obj)} (I : Inv X pins σ H s) (h : ∀ p ∈ pins', s.heap.get? p.1 = some p.2 ∧ H p.1 = none ∧ p.1 ≠ X.env.locals ∧ p.1 ∉ X.fs ∧ ∀ v, p.2.data ≠ .cell v) : Inv X pins' σ H s :=
 ⟨I.ok, I.os, I.bare, I.base, I.loc, I.cell, I.free, I.freeC, fun p hp => (List.mem_append.mp hp).elim (fun z => I.pin p (List.mem_append_left _ z)) (h p), I.hok, I.len⟩
theorem nodup_ix {N : List Str} (hN : N.Nodup) {i j : Nat} {x : Str} (a : N[i]? = some x) (b : N[j]? = some x) : i = j := by
 obtain ⟨h1, e1⟩ := List.getElem?_eq_some_iff.mp a
 obtain ⟨h2, e2⟩ := List.getElem?_eq_some_iff.mp b
 exact (List.getElem_inj hN).mp (e1.trans e2.symm)
theorem store_ok2 {M : Model} {A : Around} {E : Value → Shared → Prop} {i : Nat} {x : Str} {v : V} {u : Value} {Q : Unit → Shared → Prop} (I : Inv X pins σ H s) (hN : X.N.Nodup) (hi : X.N[i]? = some x) (hx : Loc X.env.scope x) (r : RelV v u)
  (h : ∀ s', Inv X pins (σ.set i (some v)) H s' → (∃ a, Heap.SameBut a s.heap s'.heap ∧ (a = X.env.locals ∨ X.env.cells.lookup x = some a)) → Q () s') (hf : X.fn x = true ∨ X.env.scope.names.lookup x = some .local := by first | exact .inl rfl | exact .inr rfl | assumption) : wpAny M A (storeName X.env x u) Q E s := by
 obtain ⟨m, hn, hl⟩ := id I.loc
 have hcls : (X.env.scope.kind == .class || (X.env.scope.kind == .module && X.env.locals != X.env.globals)) = false := by rw [I.ok.kind]; rfl
 have hiσ : i < σ.length := by rw [I.len]; exact (List.getElem?_eq_some_iff.mp hi).1
 have cne := I.cne
 have tracked : ∀ {a : Addr} {h' : Heap}, (∃ o, s.heap.get? a = some o ∧ H a = none) → Heap.SameBut a s.heap h' → HOk X.prog X.w H h' := fun {a h'} ha hs b ob e => by
  obtain ⟨_, _, hfree⟩ := ha
  refine (I.hok b ob e).stay (fun c w' hc q => (hs.2 c ?_).trans q) (fun _ q => q) fun _ _ q => q
  rintro rfl
  rcases hc with rfl | hc
  ·rw [hfree] at e; cases e
  ·rw [hfree] at hc; cases hc
 rcases hx with hk | hk
 ·refine wpAny_storeName_local hk hn (fun h' hn' hs => ?_) hcls
  obtain ⟨oL, _, _, hoL, _⟩ := id hn
  refine h _ ⟨I.ok, I.os, I.bare, ⟨fun b o e n hb hx => ?_, fun b o e n hb hx => ?_, I.base.free, fun b o e hx => ?_, I.base.tups, I.base.frzs, I.base.tbls⟩, ⟨_, hn', fun j y v' e1 e2 e3 => ?_⟩, fun y c e => ?_, I.free, I.freeC, fun p hp => ?_, tracked ⟨oL, hoL, I.free⟩ hs, by simpa using I.len⟩ ⟨_, hs, .inl rfl⟩
  ·exact (hs.2 b (Nat.ne_of_lt (Nat.lt_of_lt_of_le (Heap.lt_size e) I.ok.above))).trans (I.base.keep b o e n hb hx)
  ·obtain ⟨sl, e1⟩ := I.base.slot b o e n hb hx
   exact ⟨sl, (hs.2 b (Nat.ne_of_lt (Nat.lt_of_lt_of_le (Heap.lt_size e) I.ok.above))).trans e1⟩
  ·obtain ⟨o', e1⟩ := I.base.there b o e hx
   exact ⟨o', (hs.2 b (Nat.ne_of_lt (Nat.lt_of_lt_of_le (Heap.lt_size e) I.ok.above))).trans e1⟩
  ·by_cases hj : j = i
   ·subst hj
    rw [hi] at e1; cases e1
    rw [List.getElem?_set_self hiσ] at e2
    cases e2
    exact ⟨u, r, .inl ⟨hk, by simp⟩⟩
   ·rw [List.getElem?_set_ne (Ne.symm hj)] at e2
    obtain ⟨u', r', q⟩ := hl j y v' e1 e2 e3
    refine ⟨u', r', ?_⟩
    rcases q with ⟨k, e⟩ | ⟨k, c, e, z⟩
    ·refine .inl ⟨k, ?_⟩
     have : y ≠ x := fun e => hj (nodup_ix hN e1 (e ▸ hi))
     simp [this, e]
    ·exact .inr ⟨k, c, e, z.sameBut hs (cne y c e)⟩
  ·obtain ⟨w', z⟩ := I.cell y c e
   exact ⟨w', z.sameBut hs (cne y c e)⟩
  ·obtain ⟨e, n, ne, nf, d⟩ := I.pin p hp
   exact ⟨(hs.2 p.1 ne).trans e, n, ne, nf, d⟩
 ·have hfn : X.fn x = true := by
   rcases hf with z | z
   ·exact z
   ·rw [z] at hk; cases hk
  obtain ⟨c, hc⟩ := I.ok.has x (.inl hk)
  obtain ⟨w', z⟩ := I.cell x c hc
  refine wpAny_storeName_cell I.ok.kind hk hc z (fun h' hc' hs => ?_)
  obtain ⟨oc, hoc, hocd⟩ := id z
  refine h { s with heap := h' } ⟨I.ok, I.os, I.bare, ⟨fun b o e n hb hx => ?_, fun b o e n hb hx => ?_, I.base.free, fun b o e hx => ?_, I.base.tups, I.base.frzs, I.base.tbls⟩, ⟨m, hn.sameBut hs (Ne.symm (cne x c hc)), fun j y v' e1 e2 e3 => ?_⟩, fun y c' e => ?_, I.free, I.freeC, fun p hp => ?_, tracked ⟨oc, hoc, I.freeC x c hc⟩ hs, by simpa using I.len⟩ ⟨c, hs, .inr hc⟩
  ·exact (hs.2 b (Nat.ne_of_lt (Nat.lt_of_lt_of_le (Heap.lt_size e) (I.ok.cab x c hfn hc)))).trans (I.base.keep b o e n hb hx)
  ·obtain ⟨sl, e1⟩ := I.base.slot b o e n hb hx
   exact ⟨sl, (hs.2 b (Nat.ne_of_lt (Nat.lt_of_lt_of_le (Heap.lt_size e) (I.ok.cab x c hfn hc)))).trans e1⟩
  ·obtain ⟨o', e1⟩ := I.base.there b o e hx
   exact ⟨o', (hs.2 b (Nat.ne_of_lt (Nat.lt_of_lt_of_le (Heap.lt_size e) (I.ok.cab x c hfn hc)))).trans e1⟩
  ·by_cases hj : j = i
   ·subst hj
    rw [hi] at e1; cases e1
    rw [List.getElem?_set_self hiσ] at e2
    cases e2
    exact ⟨u, r, .inr ⟨.inl hk, c, hc, hc'⟩⟩
   ·rw [List.getElem?_set_ne (Ne.symm hj)] at e2
    obtain ⟨u', r', q⟩ := hl j y v' e1 e2 e3
    refine ⟨u', r', ?_⟩
    rcases q with q | ⟨k, c', e, z'⟩
    ·exact .inl q
    ·refine .inr ⟨k, c', e, z'.sameBut hs ?_⟩
     rintro rfl
     exact hj (nodup_ix hN e1 (I.ok.inj _ _ _ e hc ▸ hi))
  ·by_cases hcc : c' = c
   ·subst hcc; exact ⟨_, hc'⟩
   ·obtain ⟨w2, z2⟩ := I.cell y c' e
    exact ⟨w2, z2.sameBut hs hcc⟩
  ·obtain ⟨e, n, ne, nf, d⟩ := I.pin p hp
   refine ⟨(hs.2 p.1 ?_).trans e, n, ne, nf, d⟩
   intro q
   rw [q, hoc] at e
   have q' : oc = p.2 := Option.some.inj e
   exact d w' (by rw [← q']; exact hocd)
theorem store_ok {M : Model} {A : Around} {E : Value → Shared → Prop} {i : Nat} {x : Str} {v : V} {u : Value} {Q : Unit → Shared → Prop} (I : Inv X pins σ H s) (hN : X.N.Nodup) (hi : X.N[i]? = some x) (hx : Loc X.env.scope x) (r : RelV v u)
  (h : ∀ s', Inv X pins (σ.set i (some v)) H s' → Q () s') (hf : X.fn x = true ∨ X.env.scope.names.lookup x = some .local := by first | exact .inl rfl | exact .inr rfl | assumption) : wpAny M A (storeName X.env x u) Q E s :=
 store_ok2 I hN hi hx r (fun s' I' _ => h s' I') hf
theorem Inv.call' {s' : Shared} {ch : List Addr} (I : Inv X pins σ H s) (ho : s'.os = s.os) (u : Un (frs X.stack) ch H H' s.heap s'.heap) (hok : HOk X.prog X.w H' s'.heap) (hg : AllBare s'.gens)
  (hch : ∀ b ∈ ch, (b ∈ X.ex ∨ X.s₀.heap.objs.size ≤ b) ∧ b ≠ X.env.locals ∧ (∀ x c, X.env.cells.lookup x = some c → c ≠ b) ∧ ∀ p ∈ X.pn ++ pins, p.1 ≠ b) : Inv X pins σ H' s' := by
 obtain ⟨h', g', d', t', o'⟩ := s'
 have e : o' = s.os := ho
 subst e
 exact I.call (g' := g') (t' := t') (d' := d') u hok hg hch
end
abbrev XK := Value → Option Addr → Hp → Prop
abbrev St := List (Option V)
abbrev VK := V → Hp → Prop
abbrev TE := St → Hp → VK → Prop
abbrev TT := St → Hp → (Bool → Hp → Prop) → Prop
abbrev TA := St → Hp → (List V → Hp → Prop) → Prop
structure Ends where
 nx : St → Hp → Prop
 rt : VK
 bk : St → Hp → Prop := fun _ _ => False
 ct : St → Hp → Prop := fun _ _ => False
abbrev TS := Ends → St → Hp → Prop
def EP (X : Cx) (pins : List (Addr × Obj)) (σ : St) (Q : VK) (u : Value) (s' : Shared) : Prop := ∃ v H', Inv X pins σ H' s' ∧ RelV v u ∧ Q v H'
def TP (X : Cx) (pins : List (Addr × Obj)) (σ : St) (Q : Bool → Hp → Prop) (b : Bool) (s' : Shared) : Prop := ∃ H', Inv X pins σ H' s' ∧ Q b H'
def AP (X : Cx) (pins : List (Addr × Obj)) (σ : St) (Q : List V → Hp → Prop) (us : List Value) (s' : Shared) : Prop := ∃ vs H', Inv X pins σ H' s' ∧ Vals vs us ∧ Q vs H'
def SP (X : Cx) (pins : List (Addr × Obj)) (D : Ends) (f : Flow) (s' : Shared) : Prop :=
 match f with
 | .next => ∃ σ' H', Inv X pins σ' H' s' ∧ D.nx σ' H'
 | .brk => ∃ σ' H', Inv X pins σ' H' s' ∧ D.bk σ' H'
 | .cont => ∃ σ' H', Inv X pins σ' H' s' ∧ D.ct σ' H'
 | .ret u => ∃ v σ' H', Inv X pins σ' H' s' ∧ RelV v u ∧ D.rt v H'
def PE (X : Cx) (e : Expr) (t : TE) : Prop :=
 ∀ (pins : List (Addr × Obj)) (s : Shared) (σ : St) (H : Hp) (Q : VK), Inv X pins σ H s → t σ H Q → wpAny (model X.prog X.w) X.A (eval e X.env) (EP X pins σ Q) X.xe s
def PT (X : Cx) (e : Expr) (t : TT) : Prop :=
 ∀ (pins : List (Addr × Obj)) (s : Shared) (σ : St) (H : Hp) (Q : Bool → Hp → Prop), Inv X pins σ H s → t σ H Q → wpAny (model X.prog X.w) X.A (isTrue e X.env (eval e X.env)) (TP X pins σ Q) X.xe s
def PW (X : Cx) (e : Expr) (t : TT) : Prop :=
 ∀ (whole : Sem Value) (pins : List (Addr × Obj)) (s : Shared) (σ : St) (H : Hp) (Q : Bool → Hp → Prop), Inv X pins σ H s → t σ H Q → wpAny (model X.prog X.w) X.A (isTrue e X.env whole) (TP X pins σ Q) X.xe s
theorem PW.pt {X : Cx} {e : Expr} {t : TT} (h : PW X e t) : PT X e t := h _
def PA (X : Cx) (es : List Expr) (t : TA) : Prop :=
 ∀ (pos : Pos) (pins : List (Addr × Obj)) (s : Shared) (σ : St) (H : Hp) (Q : List V → Hp → Prop), Inv X pins σ H s → t σ H Q → wpAny (model X.prog X.w) X.A (spliced (backTo pos (starEach es X.env))) (AP X pins σ Q) X.xe s
def PS (X : Cx) (st : Stmt) (t : TS) : Prop :=
 ∀ (pins : List (Addr × Obj)) (s : Shared) (σ : St) (H : Hp) (D : Ends), Inv X pins σ H s → t D σ H → wpAny (model X.prog X.w) X.A (exec st X.env) (SP X pins D) X.xe s
def PSs (X : Cx) (st : List Stmt) (t : TS) : Prop :=
 ∀ (pins : List (Addr × Obj)) (s : Shared) (σ : St) (H : Hp) (D : Ends), Inv X pins σ H s → t D σ H → wpAny (model X.prog X.w) X.A (execs st X.env) (SP X pins D) X.xe s
theorem thn {α : Type} {t : Sem α} {Q Q' : α → Shared → Prop} {M : Model} {A : Around} {E : Value → Shared → Prop} {s : Shared} (h : wpAny M A t Q E s) (hQ : ∀ a s, Q a s → Q' a s) : wpAny M A t Q' E s := wpAny_mono h hQ fun _ _ x => x
end L2
namespace L2
open PySem PySem.Spec PyProof.Rows
section
variable {X : Cx}
def tVar (i : Nat) : TE := fun σ H Q => ∃ v, σ[i]? = some (some v) ∧ Q v H
def tC (v : V) : TE := fun _ H Q => Q v H
theorem pe_var {i : Nat} {x : Str} {pos : Pos} (hN : X.N[i]? = some x) (hv : Vis X.env.scope x) (hd : (x == ("__debug__" : Str)) = false := by decide) (hcd : (x == ("__classdict__" : Str)) = false := by decide) : PE X (.Name x pos) (tVar i) := by
 intro pins s σ H Q I h
 obtain ⟨v, e, h⟩ := h
 obtain ⟨m, hn, hl⟩ := I.loc
 obtain ⟨u, r, l⟩ := hl i x v hN e hv
 have fin : EP X pins σ Q u s := ⟨v, H, I, r, h⟩
 rcases l with ⟨hk, hm⟩ | ⟨hk, c, hc, hcell⟩
 ·exact wpAny_Name (wpAny_loadName_local I.ok.kind hk hn hm fin) hd
 ·rcases hk with hk | hk
  ·exact wpAny_Name (wpAny_loadName_cell I.ok.kind hk hc hcell fin) hd
  ·exact wpAny_Name (wpAny_loadName_free I.ok.kind hk hc hcell fin hcd) hd
theorem pe_int {i j pos} : PE X (.Constant (.int i) j pos) (tC (.int i)) := fun _ _ _ H _ I h => wpAny_Constant_int ⟨.int i, H, I.tok _, ⟨_, rfl⟩, h⟩
theorem pe_bl {b j pos} : PE X (.Constant (.bool b) j pos) (tC (.bl b)) := fun _ _ _ H _ I h => Constant_bool ⟨.bl b, H, I, rfl, h⟩
theorem pe_non {j pos} : PE X (.Constant .none j pos) (tC .non) := fun _ _ _ H _ I h => Constant_none ⟨.non, H, I, rfl, h⟩
theorem pe_str {x j pos} : PE X (.Constant (.str x) j pos) (tC (.str x)) := fun _ _ _ H _ I h => Calls.Constant_str ⟨.str x, H, I.tok _, ⟨_, rfl⟩, h⟩
def Gl (X : Cx) (x : Str) : Prop := X.env.kindOf x = some .globalImplicit
theorem ld_glob {E : Value → Shared → Prop} {pins : List (Addr × Obj)} {s : Shared} {σ : St} {H : Hp} {x : Str} {u : Value} {pos : Pos} {Q : Value → Shared → Prop} (I : Inv X pins σ H s) (hg : Gl X x) (hm : X.mg x = some u) (h : Q u s)
  (hd : (x == ("__debug__" : Str)) = false := by decide) : wpAny (model X.prog X.w) X.A (eval (.Name x pos) X.env) Q E s :=
 Calls.Name_function_global I.ok.kind hg (Calls.loadGlobal_global (by rw [I.ok.glob]; exact I.mod.glob.keeps I.bk) hm h) hd
theorem ld_blt {E : Value → Shared → Prop} {pins : List (Addr × Obj)} {s : Shared} {σ : St} {H : Hp} {x : Str} {u : Value} {pos : Pos} {Q : Value → Shared → Prop} (I : Inv X pins σ H s) (hg : Gl X x) (hm : X.mg x = none) (hv : bootBuiltins x = some u) (h : Q u s)
  (hn : x ≠ "__name__" := by decide) (hd : (x == ("__debug__" : Str)) = false := by decide) : wpAny (model X.prog X.w) X.A (eval (.Name x pos) X.env) Q E s := by
 obtain ⟨mb, h1, h2⟩ := I.mod.blt
 exact Calls.Name_function_global I.ok.kind hg (Calls.loadGlobal_builtin (by rw [I.ok.glob]; exact I.mod.glob.keeps I.bk) hm (by rw [I.ok.blt]; exact h1.keeps I.bk) ((h2 x hn).trans hv) h) hd
theorem pe_glob {x : Str} {v : V} {u : Value} {pos : Pos} (hg : Gl X x) (hm : X.mg x = some u) (r : RelV v u) (hd : (x == ("__debug__" : Str)) = false := by decide) : PE X (.Name x pos) (tC v) :=
 fun _ _ _ H _ I h => ld_glob I hg hm ⟨v, H, I, r, h⟩ hd
theorem pe_bltn {x : Str} {v : V} {u : Value} {pos : Pos} (hg : Gl X x) (hm : X.mg x = none) (hv : bootBuiltins x = some u) (r : RelV v u) (hn : x ≠ "__name__" := by decide) (hd : (x == ("__debug__" : Str)) = false := by decide) : PE X (.Name x pos) (tC v) :=
 fun _ _ _ H _ I h => ld_blt I hg hm hv ⟨v, H, I, r, h⟩ hn hd
variable {a b : Expr} {ta tb : TE} {pos : Pos}
def PC (X : Cx) (op : CmpOp) (a b : Expr) (t : TE) : Prop :=
 ∀ (pins : List (Addr × Obj)) (s : Shared) (σ : St) (H : Hp) (Q : VK), Inv X pins σ H s → t σ H Q →
  wpAny (model X.prog X.w) X.A (eval a X.env) (fun v s₁ => wpAny (model X.prog X.w) X.A (eval b X.env) (fun u s₂ => wpAny (model X.prog X.w) X.A (compareOp op v u) (EP X pins σ Q) X.xe s₂) X.xe s₁) X.xe s
def tB (t : TE) : TT := fun σ H Q => t σ H fun x H1 => ∃ c, x = .bl c ∧ Q c H1
theorem pt_cmp {op : CmpOp} {t : TE} (h : PC X op a b t) (h1 : behindInMarks op b = false := by first | exact nobehind _ (by decide) (by decide) | rfl) : PT X (.Compare a [op] [b] pos) (tB t) := by
 intro pins s σ H Q I hw
 refine wpAny_isTrue_Compare1 (thn (h pins s σ H _ I hw) fun v s1 h1 => thn h1 fun u s2 h2 => thn h2 fun c s3 ⟨x, H1, I1, r1, q1⟩ => ?_) h1
 obtain ⟨d, rfl, q⟩ := q1
 cases r1
 exact wpAny_truthy_bool ⟨H1, I1, q⟩
theorem pt_val {e : Expr} {t : TE} (h : PE X e t) (he : ∀ whole, isTrue e X.env whole = (do let v ← whole; standAt e.pos; holding [v] (truthy v)) := by intro _; rfl) : PT X e (tB t) := by
 intro pins s σ H Q I hw
 refine isTrue_plain (thn (h pins s σ H _ I hw) fun v s1 ⟨x, H1, I1, r1, q1⟩ => ?_) (he _)
 obtain ⟨d, rfl, q⟩ := q1
 cases r1
 exact wpAny_truthy_bool ⟨H1, I1, q⟩
variable {tA tB' : TT} {rest : List Expr}
def tAnd (t u : TT) : TT := fun σ H Q => t σ H fun c H1 => if c = true then u σ H1 Q else Q false H1
def tOr (t u : TT) : TT := fun σ H Q => t σ H fun c H1 => if c = true then Q true H1 else u σ H1 Q
def tNot (t : TT) : TT := fun σ H Q => t σ H fun c H1 => Q (!c) H1
theorem pw_and1 (ha : PT X a tA) : PW X (.BoolOp .And [a] pos) tA := by
 intro wh pins s σ H Q I h
 refine isTrue_and (thn (ha pins s σ H Q I h) fun c s1 e => ?_)
 cases c with
 | true => exact isTrue_and_nil e
 | false => exact e
theorem pw_or1 (ha : PT X a tA) : PW X (.BoolOp .Or [a] pos) tA := by
 intro wh pins s σ H Q I h
 refine isTrue_or (thn (ha pins s σ H Q I h) fun c s1 e => ?_)
 cases c with
 | false => exact isTrue_or_nil e
 | true => exact e
theorem pw_and (ha : PT X a tA) (hb : PW X (.BoolOp .And (b :: rest) pos) tB') : PW X (.BoolOp .And (a :: b :: rest) pos) (tAnd tA tB') := by
 intro wh pins s σ H Q I h
 refine isTrue_and (thn (ha pins s σ H _ I h) fun c s1 ⟨H1, I1, q1⟩ => ?_)
 cases c with
 | true => exact hb wh pins s1 σ H1 Q I1 q1
 | false => exact ⟨H1, I1, q1⟩
theorem pw_or (ha : PT X a tA) (hb : PW X (.BoolOp .Or (b :: rest) pos) tB') : PW X (.BoolOp .Or (a :: b :: rest) pos) (tOr tA tB') := by
 intro wh pins s σ H Q I h
 refine isTrue_or (thn (ha pins s σ H _ I h) fun c s1 ⟨H1, I1, q1⟩ => ?_)
 cases c with
 | true => exact ⟨H1, I1, q1⟩
 | false => exact hb wh pins s1 σ H1 Q I1 q1
theorem pt_not (ha : PT X a tA) : PT X (.UnaryOp .Not a pos) (tNot tA) := by
 intro pins s σ H Q I h
 exact isTrue_not (ha pins s σ H (fun c H1 => Q (!c) H1) I h)
def tAndV (ta tb : TE) : TE := fun σ H Q => ta σ H fun x H1 => ∃ c, x = .bl c ∧ if c = true then tb σ H1 Q else Q (.bl false) H1
def tOrV (ta tb : TE) : TE := fun σ H Q => ta σ H fun x H1 => ∃ c, x = .bl c ∧ if c = true then Q (.bl true) H1 else tb σ H1 Q
def tNotV (ta : TE) : TE := fun σ H Q => ta σ H fun x H1 => ∃ c, x = .bl c ∧ Q (.bl (!c)) H1
theorem pe_one {op} {t : TE} (h : PE X a t) : PE X (.BoolOp op [a] pos) t := fun pins s σ H Q I hw => BoolOp_one (h pins s σ H Q I hw)
theorem pe_and (ha : PE X a ta) (hb : PE X (.BoolOp .And (b :: rest) pos) tb) : PE X (.BoolOp .And (a :: b :: rest) pos) (tAndV ta tb) := by
 intro pins s σ H Q I h
 refine BoolOp_and (thn (ha pins s σ H _ I h) fun v s1 ⟨x, H1, I1, r1, q1⟩ => ?_)
 obtain ⟨c, rfl, q1⟩ := q1
 cases r1
 refine wpAny_truthy_bool ?_
 cases c with
 | true => exact hb pins s1 σ H1 Q I1 q1
 | false => exact ⟨.bl false, H1, I1, rfl, q1⟩
theorem pe_or (ha : PE X a ta) (hb : PE X (.BoolOp .Or (b :: rest) pos) tb) : PE X (.BoolOp .Or (a :: b :: rest) pos) (tOrV ta tb) := by
 intro pins s σ H Q I h
 refine BoolOp_or (thn (ha pins s σ H _ I h) fun v s1 ⟨x, H1, I1, r1, q1⟩ => ?_)
 obtain ⟨c, rfl, q1⟩ := q1
 cases r1
 refine wpAny_truthy_bool ?_
 cases c with
 | false => exact hb pins s1 σ H1 Q I1 q1
 | true => exact ⟨.bl true, H1, I1, rfl, q1⟩
theorem pe_not (ha : PE X a ta) : PE X (.UnaryOp .Not a pos) (tNotV ta) := by
 intro pins s σ H Q I h
 refine UnaryOp_ (thn (ha pins s σ H _ I h) fun v s1 ⟨x, H1, I1, r1, q1⟩ => ?_)
 obtain ⟨c, rfl, q1⟩ := q1
 cases r1
 exact not_of (wpAny_truthy_bool ⟨.bl (!c), H1, I1, rfl, q1⟩)
def tIf (t : TT) (ta tb : TE) : TE := fun σ H Q => t σ H fun c H1 => if c = true then ta σ H1 Q else tb σ H1 Q
theorem pe_ifExp {c : Expr} (hc : PT X c tA) (ha : PE X a ta) (hb : PE X b tb) : PE X (.IfExp c a b pos) (tIf tA ta tb) := by
 intro pins s σ H Q I h
 refine wpAny_IfExp (thn (hc pins s σ H _ I h) fun d s1 ⟨H1, I1, q1⟩ => ?_)
 cases d with
 | true => exact ha pins s1 σ H1 Q I1 q1
 | false => exact hb pins s1 σ H1 Q I1 q1
end
end L2
namespace L2
open PySem PySem.Spec PyProof.Rows
def SqL (K : PySem.W.Frag) (H : Hp) (a : Addr) (xs : List V) : Prop :=
 Rd H a (.lst xs) ∨
  ∃ (o : Obj) (its : Array Value) (n : Nat), K.lookup a = some o ∧ o.cls = .type "list" ∧ o.dict = none ∧ o.data = .seq its n ∧ its.size ≤ sizeLine ∧ Vals xs its.toList
def SqT (K : PySem.W.Frag) (H : Hp) (a : Addr) (xs : List V) : Prop :=
 Rd H a (.tup xs) ∨
  ∃ (o : Obj) (its : Array Value) (n : Nat), K.lookup a = some o ∧ o.cls = .type "tuple" ∧ o.data = .seq its n ∧ its.size ≤ sizeLine ∧ Vals xs its.toList
def absV : Value → Option V
 | .none => some .non
 | .bool b => some (.bl b)
 | .int i _ => some (.int i)
 | .str x _ => some (.str x)
 | .bytes b _ => some (.byt b)
 | .float b _ => some (.flt b)
 | .ref a => some (.ref a)
 | .type n => some (.ty n)
 | _ => none
theorem RelV.abs {x : V} {u : Value} (r : RelV x u) : absV u = some x := by
 cases x with
 | non => cases r; rfl
 | bl _ => cases r; rfl
 | int _ => obtain ⟨t, rfl⟩ := r; rfl
 | str _ => obtain ⟨t, rfl⟩ := r; rfl
 | byt _ => obtain ⟨t, rfl⟩ := r; rfl
 | flt _ => obtain ⟨t, rfl⟩ := r; rfl
 | ref _ => cases r; rfl
 | ty _ => cases r; rfl
theorem RelV.inj {x y : V} {u : Value} (r : RelV x u) (q : RelV y u) : x = y := Option.some.inj (r.abs.symm.trans q.abs)
theorem Vals.inj : ∀ {xs ys : List V} {us : List Value}, Vals xs us → Vals ys us → xs = ys
 | _, _, _, .nil, .nil => rfl
 | _, _, _, .cons r t, .cons r' t' => by rw [r.inj r', Vals.inj t t']
section
variable {X : Cx} {pins : List (Addr × Obj)} {σ : St} {H : Hp} {s : Shared} {a : Addr} {xs ys : List V}
theorem SqL.of {K : PySem.W.Frag} (h : H a = some (.lst xs)) : SqL K H a xs := .inl (.inl h)
theorem SqT.of {K : PySem.W.Frag} (h : H a = some (.tup xs)) : SqT K H a xs := .inl (.inl h)
theorem Inv.list (I : Inv X pins σ H s) (h : SqL X.K H a xs) : ∃ its : List Value, Vals xs its ∧ PlainL s.heap a its.toArray ∧ xs.length ≤ sizeLine := by
 rcases h with h | ⟨o, its, n, hk, hc, hd, hs, hz, r⟩
 ·obtain ⟨z, its, n, r, e⟩ := h.ok I.hok
  exact ⟨its, r, ⟨_, n, e, rfl, rfl, rfl⟩, z⟩
 ·refine ⟨its.toList, r, ⟨o, n, I.kIn a o hk, hc, hd, by simpa using hs⟩, ?_⟩
  have e := r.length
  simp only [Array.length_toList] at e
  omega
theorem Inv.tuple (I : Inv X pins σ H s) (h : SqT X.K H a xs) : ∃ its : List Value, Vals xs its ∧ IsTup s.heap a its.toArray ∧ xs.length ≤ sizeLine := by
 rcases h with h | ⟨o, its, n, hk, hc, hs, hz, r⟩
 ·obtain ⟨z, its, r, p⟩ := h.ok I.hok
  exact ⟨its, r, p, z⟩
 ·refine ⟨its.toList, r, ⟨o, I.kIn a o hk, hc, n, by simpa using hs⟩, ?_⟩
  have e := r.length
  simp only [Array.length_toList] at e
  omega
theorem Inv.list_inj (I : Inv X pins σ H s) (h : SqL X.K H a xs) (h' : SqL X.K H a ys) : xs = ys := by
 obtain ⟨its, r, ⟨o, n, e, _, _, d⟩, _⟩ := I.list h
 obtain ⟨its', r', ⟨o', n', e', _, _, d'⟩, _⟩ := I.list h'
 rw [e] at e'; cases e'
 rw [d] at d'
 injection d' with d1 _
 have : its = its' := by simpa using congrArg Array.toList d1
 subst this
 exact r.inj r'
theorem Inv.tuple_inj (I : Inv X pins σ H s) (h : SqT X.K H a xs) (h' : SqT X.K H a ys) : xs = ys := by
 obtain ⟨its, r, ⟨o, e, _, n, d⟩, _⟩ := I.tuple h
 obtain ⟨its', r', ⟨o', e', _, n', d'⟩, _⟩ := I.tuple h'
 rw [e] at e'; cases e'
 rw [d] at d'
 injection d' with d1 _
 have : its = its' := by simpa using congrArg Array.toList d1
 subst this
 exact r.inj r'
end
abbrev Cx.wish (X : Cx) (E : Value → Shared → Prop) : Cx := { X with xe := E }
abbrev Cx.nox (X : Cx) : Cx := X.wish fun _ _ => False
theorem Cx.Ok.wish {X : Cx} (ok : X.Ok) (E : Value → Shared → Prop) : (X.wish E).Ok :=
 ⟨ok.mod, ok.kind, ok.glob, ok.blt, ok.above, ok.inj, ok.has, ok.cab, ok.hd, ok.frames, ok.stk, ok.exf, ok.bs, ok.bsz, ok.noex, ok.exfs, ok.funs, ok.frf⟩
theorem Cx.Ok.unwish {X : Cx} {E : Value → Shared → Prop} (ok : (X.wish E).Ok) : X.Ok :=
 ⟨ok.mod, ok.kind, ok.glob, ok.blt, ok.above, ok.inj, ok.has, ok.cab, ok.hd, ok.frames, ok.stk, ok.exf, ok.bs, ok.bsz, ok.noex, ok.exfs, ok.funs, ok.frf⟩
section
variable {X : Cx} {pins : List (Addr × Obj)} {σ : St} {H : Hp} {s : Shared} {E : Value → Shared → Prop}
theorem Inv.wish (I : Inv X pins σ H s) (E : Value → Shared → Prop) : Inv (X.wish E) pins σ H s := ⟨I.ok.wish E, I.os, I.bare, I.base, I.loc, I.cell, I.free, I.freeC, I.pin, I.hok, I.len⟩
theorem Inv.unwish (I : Inv (X.wish E) pins σ H s) : Inv X pins σ H s := ⟨I.ok.unwish, I.os, I.bare, I.base, I.loc, I.cell, I.free, I.freeC, I.pin, I.hok, I.len⟩
theorem SP.unwish {D : Ends} {f : Flow} {s' : Shared} (h : SP (X.wish E) pins D f s') : SP X pins D f s' := by
 cases f with
 | next => obtain ⟨σ', H', I, q⟩ := h; exact ⟨σ', H', I.unwish, q⟩
 | brk => obtain ⟨σ', H', I, q⟩ := h; exact ⟨σ', H', I.unwish, q⟩
 | cont => obtain ⟨σ', H', I, q⟩ := h; exact ⟨σ', H', I.unwish, q⟩
 | ret u => obtain ⟨v, σ', H', I, r, q⟩ := h; exact ⟨v, σ', H', I.unwish, r, q⟩
theorem PSs.nox {st : List Stmt} {t : TS} (h : PSs X.nox st t) : PSs X st t := fun pins s σ H D I hw =>
 wpAny_mono (h pins s σ H D (I.wish _) hw) (fun _ _ q => q.unwish) fun _ _ z => False.elim z
end
section
variable {X : Cx} {st : Stmt} {rest : List Stmt} {t u : TS} {e : Expr} {te : TE} {pos : Pos}
def tNext : TS := fun D σ H => D.nx σ H
def tSeq (t u : TS) : TS := fun D σ H => t { D with nx := u D } σ H
theorem pss_nil : PSs X [] tNext := fun _ _ σ H _ I h => wpAny_execs_nil ⟨σ, H, I, h⟩
theorem pss_cons (h1 : PS X st t) (h2 : PSs X rest u) : PSs X (st :: rest) (tSeq t u) := by
 intro pins s σ H D I h
 refine wpAny_execs_cons (thn (h1 pins s σ H { D with nx := u D } I h) fun f s1 q => ?_)
 cases f with
 | next =>
  obtain ⟨σ', H', I', q⟩ := q
  exact h2 pins s1 σ' H' D I' q
 | ret v => exact q
 | brk => exact q
 | cont => exact q
theorem pss_one (h1 : PS X st t) : PSs X [st] t := by
 intro pins s σ H D I h
 refine wpAny_execs_cons (thn (h1 pins s σ H D I h) fun f s1 q => ?_)
 cases f with
 | next => exact wpAny_execs_nil q
 | ret v => exact q
 | brk => exact q
 | cont => exact q
theorem Inv.quiet {pins : List (Addr × Obj)} {σ : St} {H : Hp} {s : Shared} (I : Inv X pins σ H s) : interactive X.env = false := by simp [interactive, I.ok.kind]
def tDrop (te : TE) : TS := fun D σ H => te σ H fun _ H1 => D.nx σ H1
theorem ps_expr (he : PE X e te) (hs : swapsWith e none pos.line X.env = pure false := by rfl) : PS X (.Expr e pos) (tDrop te) := by
 intro pins s σ H D I h
 exact wpAny_Expr_any (thn (he pins s σ H _ I h) fun v s1 ⟨x, H1, I1, r1, q1⟩ => ⟨σ, H1, I1, q1⟩) I.quiet hs
def tRet (te : TE) : TS := fun D σ H => te σ H D.rt
theorem ps_ret (he : PE X e te) : PS X (.Return (some e) pos) (tRet te) := by
 intro pins s σ H D I h
 exact wpAny_Return_some (thn (he pins s σ H _ I h) fun v s1 ⟨x, H1, I1, r1, q1⟩ => ⟨x, σ, H1, I1, r1, q1⟩)
def tIfS (c : TT) (t u : TS) : TS := fun D σ H => c σ H fun b H1 => if b = true then t D σ H1 else u D σ H1
theorem ps_if {c : Expr} {a b : List Stmt} {tc : TT} (hc : PT X c tc) (ha : PSs X a t) (hb : PSs X b u) : PS X (.If c a b pos) (tIfS tc t u) := by
 intro pins s σ H D I h
 refine wpAny_If (thn (hc pins s σ H _ I h) fun d s1 ⟨H1, I1, q1⟩ => ?_)
 cases d with
 | true => exact ha pins s1 σ H1 D I1 q1
 | false => exact hb pins s1 σ H1 D I1 q1
def tNever : TS := fun _ _ _ => False
theorem ps_never : PS X st tNever := fun _ _ _ _ _ _ h => h.elim
end
abbrev TG := V → St → Hp → (St → Hp → Prop) → Prop
abbrev TGs := List V → St → Hp → (St → Hp → Prop) → Prop
def PG (X : Cx) (target : Expr) (t : TG) : Prop :=
 ∀ (pins : List (Addr × Obj)) (s : Shared) (σ : St) (H : Hp) (v : V) (u : Value) (Q : St → Hp → Prop), Inv X pins σ H s → RelV v u → t v σ H Q →
  wpAny (model X.prog X.w) X.A (assign target X.env u) (fun _ s' => ∃ σ' H', Inv X pins σ' H' s' ∧ Q σ' H') X.xe s
def PGs (X : Cx) (ts : List Expr) (t : TGs) : Prop :=
 ∀ (pins : List (Addr × Obj)) (s : Shared) (σ : St) (H : Hp) (vs : List V) (us : List Value) (Q : St → Hp → Prop), Inv X pins σ H s → Vals vs us → t vs σ H Q →
  wpAny (model X.prog X.w) X.A (assignInOrder ((assignEach ts X.env).map (·.2)) us) (fun _ s' => ∃ σ' H', Inv X pins σ' H' s' ∧ Q σ' H') X.xe s
abbrev TSet := V → V → V → Hp → (Hp → Prop) → Prop
def PSet (X : Cx) (t : TSet) : Prop :=
 ∀ (pins : List (Addr × Obj)) (s : Shared) (σ : St) (H : Hp) (o i v : V) (ov iv u : Value) (Q : Hp → Prop), Inv X pins σ H s → RelV o ov → RelV i iv → RelV v u → t o i v H Q →
  wpAny (model X.prog X.w) X.A (setItem ov iv u) (fun _ s' => ∃ H', Inv X pins σ H' s' ∧ Q H') X.xe s
section
variable {X : Cx} {pos : Pos}
def gName (i : Nat) : TG := fun v σ H Q => Q (σ.set i (some v)) H
theorem pg_name {i : Nat} {x : Str} (hN : X.N.Nodup) (hi : X.N[i]? = some x) (hx : Loc X.env.scope x) (hf : X.fn x = true ∨ X.env.scope.names.lookup x = some .local := by first | exact .inl rfl | exact .inr rfl | assumption) : PG X (.Name x pos) (gName i) := by
 intro pins s σ H v u Q I r h
 exact wpAny_assign_Name (store_ok I hN hi hx r (fun s' I' => ⟨_, H, I', h⟩) hf)
def gNil : TGs := fun vs σ H Q => vs = [] ∧ Q σ H
def gCons (t : TG) (u : TGs) : TGs := fun vs σ H Q => ∃ v r, vs = v :: r ∧ t v σ H fun σ' H' => u r σ' H' Q
theorem pgs_nil : PGs X [] gNil := by
 intro pins s σ H vs us Q I r h
 obtain ⟨e, h⟩ := h
 subst e
 cases r
 exact assignInOrder_nil ⟨σ, H, I, h⟩
theorem pgs_cons {e : Expr} {es : List Expr} {t : TG} {u : TGs} (h1 : PG X e t) (h2 : PGs X es u)
  (hs : (assignEach (e :: es) X.env).map (·.2) = assign e X.env :: (assignEach es X.env).map (·.2) := by rfl) : PGs X (e :: es) (gCons t u) := by
 intro pins s σ H vs us Q I r h
 obtain ⟨v, vr, e1, h⟩ := h
 subst e1
 cases r with
 | cons r rr =>
  rw [hs]
  refine assignInOrder_cons (thn (h1 pins s σ H _ _ _ I r h) fun _ s1 ⟨σ1, H1, I1, q1⟩ => ?_)
  exact h2 pins s1 σ1 H1 _ _ Q I1 rr q1
def gTup (K : PySem.W.Frag) (n : Nat) (t : TGs) : TG := fun v σ H Q => ∃ a xs, v = .ref a ∧ SqT K H a xs ∧ xs.length = n ∧ t xs σ H Q
theorem pg_tup {es : List Expr} {k : Nat} {t : TGs} {n : Nat} (hc : X.calm = true) (h : PGs X es t)
  (hn : (assignEach es X.env).length = n := by rfl) (hst : (assignEach es X.env).findIdx? (·.1) = none := by rfl) : PG X (.Tuple es k pos) (gTup X.K n t) := by
 intro pins s σ H v u Q I r hw
 obtain ⟨a, xs, e1, hq, hl, hw⟩ := hw
 subst e1
 cases r
 obtain ⟨its, rv, ht, hz⟩ := I.tuple hq
 refine assign_Tuple_tuple (I.ok.hd hc) ht (by simp [hn, ← hl, rv.length]) hst fun h' hx => ?_
 have I1 : Inv X pins σ H { s with heap := h' } := I.kept (t' := s.toks) fun b o e => hx b o (Nat.ne_of_lt (Heap.lt_size e)) e
 exact h pins _ σ H xs _ Q I1 (by simpa using rv) hw
def gSub (to ti : TE) (t : TSet) : TG := fun v σ H Q => to σ H fun o H1 => ti σ H1 fun i H2 => t o i v H2 fun H3 => Q σ H3
theorem pg_sub {o i : Expr} {to ti : TE} {t : TSet} (ho : PE X o to) (hi : PE X i ti) (hs : PSet X t)
  (ha : ∀ v, assign (.Subscript o i pos) X.env v = (do
   let ov ← holding [v] (eval o X.env)
   let iv ← holding [v, ov] (eval i X.env)
   standAt pos
   holding [v, ov, iv] (setItem ov iv v)
   release [v, ov, iv] []) := by intro _; rfl) : PG X (.Subscript o i pos) (gSub to ti t) := by
 intro pins s σ H v u Q I r h
 rw [ha]
 refine wpAny_bind (wpAny_holding (thn (ho pins s σ H _ I h) fun ov s1 ⟨x, H1, I1, r1, q1⟩ => ?_))
 refine wpAny_bind (wpAny_holding (thn (hi pins s1 σ H1 _ I1 q1) fun iv s2 ⟨y, H2, I2, r2, q2⟩ => ?_))
 refine wpAny_bind (wpAny_standAt (wpAny_bind (wpAny_holding (thn (hs pins s2 σ H2 x y v ov iv u _ I2 r1 r2 r q2) fun _ s3 ⟨H3, I3, q3⟩ => ?_))))
 exact wpAny_release ⟨σ, H3, I3, q3⟩
def tAsg (te : TE) (g : TG) : TS := fun D σ H => te σ H fun x H1 => g x σ H1 D.nx
theorem ps_asg {tg e : Expr} {te : TE} {g : TG} (he : PE X e te) (hg : PG X tg g) (hs : swapsWithSole [tg] e pos.line X.env = pure false := by rfl) (hw : swappedStores [tg] e X.env = pure none := by rfl)
  (h1 : (assignEach [tg] X.env).map (·.2) = [assign tg X.env] := by rfl) : PS X (.Assign [tg] e pos) (tAsg te g) := by
 intro pins s σ H D I h
 refine wpAny_Assign_stores (thn (he pins s σ H _ I h) fun v s1 ⟨x, H1, I1, r1, q1⟩ => ?_) hs hw
 rw [h1]
 exact thn (hg pins s1 σ H1 x v _ I1 r1 q1) fun _ s2 q => q
theorem ps_set {i : Nat} {x : Str} {e : Expr} {te : TE} {pos' : Pos} (hN : X.N.Nodup) (hi : X.N[i]? = some x) (hx : Loc X.env.scope x) (he : PE X e te) (hs : swapsWith e (some (.Name x pos')) pos.line X.env = pure false := by rfl) (hf : X.fn x = true ∨ X.env.scope.names.lookup x = some .local := by first | exact .inl rfl | exact .inr rfl | assumption) :
  PS X (.Assign [.Name x pos'] e pos) (tAsg te (gName i)) := by
 intro pins s σ H D I h
 refine wpAny_Assign_Name (thn (he pins s σ H _ I h) fun v s1 ⟨y, H1, I1, r1, q1⟩ => ?_) hs
 exact store_ok I1 hN hi hx r1 (fun s2 I2 => ⟨_, H1, I2, q1⟩) hf
end
section
variable {X : Cx} {pos : Pos}
end
structure It where
 go : Nat → Hp → Prop
 yld : Nat → Hp → V → Hp → Prop
 stop : Nat → Hp → Prop
def FpOk (X : Cx) (pins : List (Addr × Obj)) (H : Hp) (b : Addr) : Prop :=
 H b = none ∧ b ≠ X.env.locals ∧ b ∉ X.fs ∧ (b ∈ X.ex ∨ X.s₀.heap.objs.size ≤ b) ∧ (∀ x c, X.env.cells.lookup x = some c → c ≠ b) ∧ ∀ p ∈ X.pn ++ pins, p.1 ≠ b
theorem Inv.fpOk {X : Cx} {pins : List (Addr × Obj)} {σ : St} {H H' : Hp} {s : Shared} {b : Addr} (I : Inv X pins σ H s) (hb : s.heap.objs.size ≤ b) (hn : H' b = none) : FpOk X pins H' b := by
 refine ⟨hn, Nat.ne_of_gt (Nat.lt_of_lt_of_le I.lt hb), I.nofs hb, .inr (Nat.le_trans I.sz hb), fun x c e z => ?_, fun p hp z => ?_⟩
 ·obtain ⟨v, q⟩ := I.cell x c e
  exact absurd (Nat.lt_of_lt_of_le q.lt (by rw [z]; exact hb)) (Nat.lt_irrefl _)
 ·exact absurd (Nat.lt_of_lt_of_le (Heap.lt_size (I.pin p hp).1) (by rw [z]; exact hb)) (Nat.lt_irrefl _)
structure Turn (P : Program) (w : World) (K : PySem.W.Frag) (tg : Expr) (J : It) (fp : List Addr) (it : Addr) (tn : Nat → Heap → Prop) : Prop where
 mem : it ∈ fp
 obj : ∀ i h, tn i h → ∀ b ∈ fp, ∃ o, h.get? b = some o ∧ ∀ v, o.data ≠ .cell v
 keep : ∀ i h h', tn i h → (∀ b ∈ fp, ∀ o, h.get? b = some o → h'.get? b = some o) → tn i h'
 item : ∀ (X : Cx), X.prog = P → X.w = w → X.K = K → X.calm = true → ∀ (i : Nat) (pins : List (Addr × Obj)) (s : Shared) (σ : St) (H : Hp) (E : Value → Shared → Prop), Inv X pins σ H s → (∀ b ∈ fp, FpOk X pins H b) → tn i s.heap → J.go i H →
  wpAny (model P w) X.A (pyNext (.ref it)) (fun r s1 => ∃ u, r = some u ∧
   wpAny (model P w) X.A (letOwnedTupleGo tg (.ref it) u) (fun _ s2 => ∃ x H', Inv X pins σ H' s2 ∧ RelV x u ∧ J.yld i H x H' ∧ tn (i + 1) s2.heap ∧ ∀ b ∈ fp, H' b = none) E s1) E s
 done : ∀ (X : Cx), X.prog = P → X.w = w → X.K = K → X.calm = true → ∀ (i : Nat) (pins : List (Addr × Obj)) (s : Shared) (σ : St) (H : Hp) (E : Value → Shared → Prop), Inv X pins σ H s → (∀ b ∈ fp, FpOk X pins H b) → tn i s.heap → J.stop i H →
  wpAny (model P w) X.A (pyNext (.ref it)) (fun r s1 => r = none ∧ Inv X pins σ H s1) E s
 self : ∀ (A : Around) (i : Nat) (s : Shared) (Q : Value → Shared → Prop) (E : Value → Shared → Prop), tn i s.heap → Q (.ref it) s → wpAny (model P w) A (pyIter (.ref it)) Q E s
abbrev TI := St → Hp → (It → Hp → Prop) → Prop
def PIE (X : Cx) (pins : List (Addr × Obj)) (σ : St) (tg : Expr) (R : It → Hp → Prop) (itv : Value) (s2 : Shared) : Prop :=
 ∃ (it : Addr) (fp : List Addr) (tn : Nat → Heap → Prop) (J : It) (H' : Hp), itv = .ref it ∧ Inv X pins σ H' s2 ∧ Turn X.prog X.w X.K tg J fp it tn ∧ tn 0 s2.heap ∧ (∀ b ∈ fp, FpOk X pins H' b) ∧ R J H'
def PI (X : Cx) (tg iter : Expr) (wi : TI) : Prop :=
 ∀ (pins : List (Addr × Obj)) (s : Shared) (σ : St) (H : Hp) (R : It → Hp → Prop), Inv X pins σ H s → wi σ H R →
  wpAny (model X.prog X.w) X.A (eval iter X.env) (fun v s1 => wpAny (model X.prog X.w) X.A (pyIter v) (PIE X pins σ tg R) X.xe s1) X.xe s
theorem go_of {M : Model} {A : Around} {E : Value → Shared → Prop} {s : Shared} {tg : Expr} {it : Addr} {u : Value} {o : Obj} {n : String} {vs : Array Value} {Q : Unit → Shared → Prop} (ho : s.heap.get? it = some o) (hc : o.cls = .type n) (hd : o.data = .fields vs)
  (hn : ["enumerate", "zip", "dict_itemiterator", "dict_reverseitemiterator", "odict_iterator", "itertools.zip_longest", "itertools.pairwise"].contains n = false) (hQ : Q () s) : wpAny M A (letOwnedTupleGo tg (.ref it) u) Q E s := by
 unfold letOwnedTupleGo
 cases tg <;> first
  | exact wpAny_pure hQ
  | (cases u <;> first
    | exact wpAny_pure hQ
    | (refine wpAny_bind (wpAny_load ho ?_); rw [hc, hd]; show wpAny M A (if (["enumerate", "zip", "dict_itemiterator", "dict_reverseitemiterator", "odict_iterator", "itertools.zip_longest", "itertools.pairwise"].contains n && vs[0]? == some (rawInt _)) = true then _ else _) Q E s; rw [if_neg (by intro h; rw [hn, Bool.false_and] at h; cases h)]; exact wpAny_pure hQ))
def Itl (K : PySem.W.Frag) (a : Addr) : It :=
 ⟨fun i H => ∃ xs x, SqL K H a xs ∧ xs[i]? = some x, fun i H x H' => H' = H ∧ ∀ xs, SqL K H a xs → xs[i]? = some x, fun i H => ∃ xs, SqL K H a xs ∧ xs.length ≤ i⟩
def Itt (K : PySem.W.Frag) (a : Addr) : It :=
 ⟨fun i H => ∃ xs x, SqT K H a xs ∧ xs[i]? = some x, fun i H x H' => H' = H ∧ ∀ xs, SqT K H a xs → xs[i]? = some x, fun i H => ∃ xs, SqT K H a xs ∧ xs.length ≤ i⟩
def Itr (lo : Int) (n : Nat) : It := ⟨fun i _ => i < n, fun i H x H' => H' = H ∧ x = .int (lo + i), fun i _ => n ≤ i⟩
theorem turn_list {P : Program} {w : World} {K : PySem.W.Frag} {tg : Expr} (a it : Addr) : Turn P w K tg (Itl K a) [it] it (fun i h => h.IsListIter it a i) where
 mem := by simp
 obj := fun i h st b hb => by
  have e : b = it := by simpa using hb
  subst e
  obtain ⟨o, e, c, d⟩ := st
  exact ⟨o, e, fun v z => by rw [d] at z; cases z⟩
 keep := fun i h h' st k => st.at fun o e => k it (by simp) o e
 item := by
  intro X hP hw hK hc i pins s σ H E I hf st hg
  subst hP hw hK
  obtain ⟨xs, x, hq, hx⟩ := hg
  obtain ⟨its, rv, p, hz⟩ := I.list hq
  obtain ⟨u, hu, ru⟩ := rv.get hx
  obtain ⟨f0, f1, f2, f3, f4, f5⟩ := hf it (by simp)
  refine wpAny_pyNext_list_item st p.isList (x := u) (by simpa using hu) fun h' st' sb => ?_
  have I1 : Inv X pins σ H { s with heap := h' } := I.turned (t' := s.toks) (fun b o hb e => (sb.2 b hb).trans e) f0 f1 f3 f4 f5
  obtain ⟨o, e, c, d⟩ := id st'
  exact ⟨u, rfl, go_of (s := { s with heap := h' }) e c d (by decide) ⟨x, H, I1, ru, ⟨rfl, fun ys hy => by rw [I.list_inj hy hq]; exact hx⟩, st', fun b hb => (hf b hb).1⟩⟩
 done := by
  intro X hP hw hK hc i pins s σ H E I hf st hg
  subst hP hw hK
  obtain ⟨xs, hq, hx⟩ := hg
  obtain ⟨its, rv, p, hz⟩ := I.list hq
  obtain ⟨f0, f1, f2, f3, f4, f5⟩ := hf it (by simp)
  have hl := rv.length
  exact wpAny_pyNext_list_end (I.ok.hd hc) st p.isList (by simp; omega) fun h' eb => ⟨rfl, I.turned (t' := s.toks) (fun b o hb e => eb b o hb e) f0 f1 f3 f4 f5⟩
 self := fun _ _ _ _ _ st h => wpAny_pyIter_listiter st h
theorem turn_tuple {P : Program} {w : World} {K : PySem.W.Frag} {tg : Expr} (a it : Addr) : Turn P w K tg (Itt K a) [it] it (fun i h => h.IsTupleIter it a i) where
 mem := by simp
 obj := fun i h st b hb => by
  have e : b = it := by simpa using hb
  subst e
  obtain ⟨o, e, c, d⟩ := st
  exact ⟨o, e, fun v z => by rw [d] at z; cases z⟩
 keep := fun i h h' st k => st.at fun o e => k it (by simp) o e
 item := by
  intro X hP hw hK hc i pins s σ H E I hf st hg
  subst hP hw hK
  obtain ⟨xs, x, hq, hx⟩ := hg
  obtain ⟨its, rv, p, hz⟩ := I.tuple hq
  obtain ⟨u, hu, ru⟩ := rv.get hx
  obtain ⟨f0, f1, f2, f3, f4, f5⟩ := hf it (by simp)
  refine wpAny_pyNext_tuple_item st (show s.heap.IsTuple a its.toArray from p) (x := u) (by simpa using hu) fun h' st' sb => ?_
  have I1 : Inv X pins σ H { s with heap := h' } := I.turned (t' := s.toks) (fun b o hb e => (sb.2 b hb).trans e) f0 f1 f3 f4 f5
  obtain ⟨o, e, c, d⟩ := id st'
  exact ⟨u, rfl, go_of (s := { s with heap := h' }) e c d (by decide) ⟨x, H, I1, ru, ⟨rfl, fun ys hy => by rw [I.tuple_inj hy hq]; exact hx⟩, st', fun b hb => (hf b hb).1⟩⟩
 done := by
  intro X hP hw hK hc i pins s σ H E I hf st hg
  subst hP hw hK
  obtain ⟨xs, hq, hx⟩ := hg
  obtain ⟨its, rv, p, hz⟩ := I.tuple hq
  obtain ⟨f0, f1, f2, f3, f4, f5⟩ := hf it (by simp)
  have hl := rv.length
  exact wpAny_pyNext_tuple_end (I.ok.hd hc) st (show s.heap.IsTuple a its.toArray from p) (by simp; omega) fun h' eb => ⟨rfl, I.turned (t' := s.toks) (fun b o hb e => eb b o hb e) f0 f1 f3 f4 f5⟩
 self := fun _ _ _ _ _ st h => wpAny_pyIter_tupleiter st h
theorem turn_range {P : Program} {w : World} {K : PySem.W.Frag} {tg : Expr} (it : Addr) (lo : Int) (n : Nat) : Turn P w K tg (Itr lo n) [it] it (fun i h => IsRangeIter h it (lo + (i : Nat) * 1) ((n : Int) - (i : Nat)) 1) where
 mem := by simp
 obj := fun i h st b hb => by
  have e : b = it := by simpa using hb
  subst e
  exact ⟨_, st, fun v z => by
   have z' : Data.fields _ = Data.cell v := z
   cases z'⟩
 keep := fun i h h' st k => k it (by simp) _ st
 item := by
  intro X hP hw hK hc i pins s σ H E I hf st hg
  subst hP hw hK
  obtain ⟨f0, f1, f2, f3, f4, f5⟩ := hf it (by simp)
  have W := Walks.range (prog := X.prog) (w := X.w) (I.ok.hd hc) it lo 1 n
  refine W.item i s _ _ hg st fun v h' tk hv st' kk => ?_
  obtain ⟨t, rfl⟩ := hv
  have I1 : Inv X pins σ H { s with heap := h', toks := tk } := I.turned (fun b o hb e => kk b o (by simpa using hb) e) f0 f1 f3 f4 f5
  refine ⟨_, rfl, go_of (s := { s with heap := h', toks := tk }) (n := "range_iterator") st' rfl rfl (by decide) ⟨.int (lo + i), H, I1, ⟨t, ?_⟩, ⟨rfl, rfl⟩, st', fun b hb => (hf b hb).1⟩⟩
  rw [Int.mul_one]
 done := by
  intro X hP hw hK hc i pins s σ H E I hf st hg
  subst hP hw hK
  obtain ⟨f0, f1, f2, f3, f4, f5⟩ := hf it (by simp)
  exact wpAny_pyNext_range_end (I.ok.hd hc) st (by have : n ≤ i := hg; omega) fun h' eb => ⟨rfl, I.turned (t' := s.toks) (fun b o hb e => eb b o hb e) f0 f1 f3 f4 f5⟩
 self := fun _ _ _ _ _ st h => wpAny_pyIter_rangeiter st h
end L2
namespace L2
open PySem PySem.Spec PyProof.Rows
section
variable {X : Cx} {tg : Expr}
def iList (K : PySem.W.Frag) (tl : TE) : TI := fun σ H R => tl σ H fun x H1 => ∃ a, x = .ref a ∧ (∃ xs, SqL K H1 a xs) ∧ R (Itl K a) H1
def iTup (K : PySem.W.Frag) (tl : TE) : TI := fun σ H R => tl σ H fun x H1 => ∃ a, x = .ref a ∧ (∃ xs, SqT K H1 a xs) ∧ R (Itt K a) H1
theorem pi_list {l : Expr} {tl : TE} (hl : PE X l tl) : PI X tg l (iList X.K tl) := by
 intro pins s σ H R I h
 refine thn (hl pins s σ H _ I h) fun v s1 ⟨x, H1, I1, r1, q1⟩ => ?_
 obtain ⟨a, e, ⟨xs, hq⟩, q⟩ := q1
 subst e
 cases r1
 obtain ⟨its, rv, p, hz⟩ := I1.list hq
 refine wpAny_pyIter_list p.isList ?_
 refine ⟨s1.heap.objs.size, [s1.heap.objs.size], _, _, H1, rfl, I1.kept (t' := s1.toks) fun b o e => Heap.get?_push_of_some _ e, turn_list a _, ⟨_, Heap.get?_push_size _ rfl, rfl, rfl⟩, fun b hb => ?_, q⟩
 have e : b = s1.heap.objs.size := by simpa using hb
 subst e
 exact I1.fpOk (Nat.le_refl _) (I1.hok.fresh (Nat.le_refl _))
theorem pi_tup {l : Expr} {tl : TE} (hl : PE X l tl) : PI X tg l (iTup X.K tl) := by
 intro pins s σ H R I h
 refine thn (hl pins s σ H _ I h) fun v s1 ⟨x, H1, I1, r1, q1⟩ => ?_
 obtain ⟨a, e, ⟨xs, hq⟩, q⟩ := q1
 subst e
 cases r1
 obtain ⟨its, rv, p, hz⟩ := I1.tuple hq
 refine wpAny_pyIter_tuple (show s1.heap.IsTuple a its.toArray from p) ?_
 refine ⟨s1.heap.objs.size, [s1.heap.objs.size], _, _, H1, rfl, I1.kept (t' := s1.toks) fun b o e => Heap.get?_push_of_some _ e, turn_tuple a _, ⟨_, Heap.get?_push_size _ rfl, rfl, rfl⟩, fun b hb => ?_, q⟩
 have e : b = s1.heap.objs.size := by simpa using hb
 subst e
 exact I1.fpOk (Nat.le_refl _) (I1.hok.fresh (Nat.le_refl _))
theorem range_it {pins : List (Addr × Obj)} {σ : St} {H : Hp} {s : Shared} {R : It → Hp → Prop} {E : Value → Shared → Prop} {lo hi : Int} {t u v : Tok} {tk : Nat} (I : Inv X pins σ H s) (h1 : -(2 ^ 62) ≤ lo) (h2 : lo < 2 ^ 62) (h3 : -(2 ^ 62) ≤ hi) (h4 : hi < 2 ^ 62)
  (q : R (Itr lo (hi - lo).toNat) H) : wpAny (model X.prog X.w) X.A (pyIter (.ref s.heap.objs.size)) (PIE X pins σ tg R) E { s with heap := s.heap.push { cls := .type "range", data := .fields #[.int lo t, .int hi u, .int 1 v] }, toks := tk } := by
 refine wpAny_pyIter_range (IsRange.new ..) (small_one h1 h2 h3 h4) ?_
 have I1 : Inv X pins σ H { s with heap := s.heap.push { cls := .type "range", data := .fields #[.int lo t, .int hi u, .int 1 v] }, toks := tk } := I.kept fun b o e => Heap.get?_push_of_some _ e
 refine ⟨(s.heap.push { cls := .type "range", data := .fields #[.int lo t, .int hi u, .int 1 v] }).objs.size, [(s.heap.push { cls := .type "range", data := .fields #[.int lo t, .int hi u, .int 1 v] }).objs.size], _, _, H, rfl,
  I1.kept (t' := tk) fun b o e => Heap.get?_push_of_some _ e, turn_range _ lo (hi - lo).toNat, ?_, fun b hb => ?_, q⟩
 ·have e1 : lo + ((0 : Nat) : Int) * 1 = lo := by simp
  have e2 : (((hi - lo).toNat : Nat) : Int) - ((0 : Nat) : Int) = Builtin.Range.rangeSize lo hi 1 := by rw [rangeSize_one]; split <;> omega
  show IsRangeIter _ _ (lo + ((0 : Nat) : Int) * 1) ((((hi - lo).toNat : Nat) : Int) - ((0 : Nat) : Int)) 1
  rw [e1, e2]
  exact Heap.get?_push_size _ rfl
 ·have e : b = (s.heap.push { cls := .type "range", data := .fields #[.int lo t, .int hi u, .int 1 v] }).objs.size := by simpa using hb
  subst e
  exact I1.fpOk (Nat.le_refl _) (I1.hok.fresh (Nat.le_refl _))
def iRng1 (ta : TA) : TI := fun σ H R => ta σ H fun vs H1 => ∃ j : Int, vs = [.int j] ∧ -(2 ^ 62) ≤ j ∧ j < 2 ^ 62 ∧ R (Itr 0 j.toNat) H1
def iRng2 (ta : TA) : TI := fun σ H R => ta σ H fun vs H1 => ∃ i j : Int, vs = [.int i, .int j] ∧ (-(2 ^ 62) ≤ i ∧ i < 2 ^ 62 ∧ -(2 ^ 62) ≤ j ∧ j < 2 ^ 62) ∧ R (Itr i (j - i).toNat) H1
theorem pi_range1 {a : Expr} {ta : TA} {p pos : Pos} (hg : Gl X "range") (hm : X.mg "range" = none) (ha : PA X [a] ta) (hs : starEach [a] X.env = [(false, eval a X.env)] := by rfl) : PI X tg (.Call (.Name "range" p) [a] [] pos) (iRng1 ta) := by
 intro pins s σ H R I h
 refine Call_ (ld_blt I hg hm boot_range (PyProof.Rows.callWith_type1 (thn (ha pos pins s σ H _ I h) fun us s1 ⟨vs, H1, I1, r1, q1⟩ => ?_) hs rfl))
 obtain ⟨j, e, q1, q2, q⟩ := q1
 subst e
 cases r1 with
 | cons r rr =>
  cases rr
  obtain ⟨t, rfl⟩ := r
  exact call_range_1 (range_it I1 (by omega) (by omega) q1 q2 (by simpa using q))
theorem pi_range2 {a b : Expr} {ta : TA} {p pos : Pos} (hg : Gl X "range") (hm : X.mg "range" = none) (ha : PA X [a, b] ta) (hs : starEach [a, b] X.env = [(false, eval a X.env), (false, eval b X.env)] := by rfl) (hs2 : starEach [b] X.env = [(false, eval b X.env)] := by rfl) :
  PI X tg (.Call (.Name "range" p) [a, b] [] pos) (iRng2 ta) := by
 intro pins s σ H R I h
 refine Call_ (ld_blt I hg hm boot_range (PyProof.Rows.callWith_type1 (thn (ha pos pins s σ H _ I h) fun us s1 ⟨vs, H1, I1, r1, q1⟩ => ?_) (by rw [hs, hs2]) (by rw [hs2]; rfl)))
 obtain ⟨i, j, e, ⟨q1, q2, q3, q4⟩, q⟩ := q1
 subst e
 cases r1 with
 | cons r rr =>
  cases rr with
  | cons r' rr =>
   cases rr
   obtain ⟨t, rfl⟩ := r
   obtain ⟨t', rfl⟩ := r'
   exact call_range_2 (range_it I1 q1 q2 q3 q4 q)
def tFor (wi : TI) (g : TG) (tb : TS) : TS := fun D σ H => wi σ H fun J H1 => ∃ W : Nat → Nat → St → Hp → Prop, (∃ m, W 0 m σ H1) ∧ ∀ i m σ H, W i m σ H →
 (J.stop i H ∧ D.nx σ H) ∨ (J.go i H ∧ ∃ N : St → Hp → Prop, (∀ σ' H', N σ' H' → ∃ m', m' < m ∧ W (i + 1) m' σ' H') ∧ ∀ x H', J.yld i H x H' → g x σ H' fun σ2 H2 => tb { D with nx := N, ct := N, bk := D.nx } σ2 H2)
def pinsAt (fp : List Addr) (h : Heap) : List (Addr × Obj) := fp.filterMap fun b => (h.get? b).map fun o => (b, o)
theorem mem_pinsAt {fp : List Addr} {h : Heap} {b : Addr} {o : Obj} (hb : b ∈ fp) (e : h.get? b = some o) : (b, o) ∈ pinsAt fp h := List.mem_filterMap.mpr ⟨b, hb, by rw [e]; rfl⟩
theorem of_pinsAt {fp : List Addr} {h : Heap} {p : Addr × Obj} (hp : p ∈ pinsAt fp h) : p.1 ∈ fp ∧ h.get? p.1 = some p.2 := by
 obtain ⟨b, hb, e⟩ := List.mem_filterMap.mp hp
 cases q : h.get? b with
 | none => rw [q] at e; cases e
 | some o =>
  rw [q] at e
  have e' : (b, o) = p := Option.some.inj e
  subst e'
  exact ⟨hb, q⟩
theorem Inv.pinned {pins : List (Addr × Obj)} {σ : St} {H : Hp} {s : Shared} {fp : List Addr} (I : Inv X pins σ H s) (hf : ∀ b ∈ fp, FpOk X pins H b) (ho : ∀ b ∈ fp, ∃ o, s.heap.get? b = some o ∧ ∀ v, o.data ≠ .cell v) : Inv X (pins ++ pinsAt fp s.heap) σ H s :=
 I.pins_of fun p hp => (List.mem_append.mp hp).elim (fun z => I.pin p (List.mem_append_right _ z)) fun z => by
  obtain ⟨hb, e⟩ := of_pinsAt z
  obtain ⟨f0, f1, f2, _⟩ := hf p.1 hb
  obtain ⟨o, e', d⟩ := ho p.1 hb
  rw [e] at e'; cases e'
  exact ⟨e, f0, f1, f2, d⟩
theorem Inv.unpinned {pins pl : List (Addr × Obj)} {σ : St} {H : Hp} {s : Shared} (I : Inv X (pins ++ pl) σ H s) : Inv X pins σ H s := I.pins_of fun p hp => I.pin p (List.mem_append_right _ (List.mem_append_left _ hp))
theorem ps_for {iter : Expr} {body : List Stmt} {wi : TI} {g : TG} {tb : TS} {pos : Pos} (hp : PassesOwn (model X.prog X.w) X.A X.env X.xe) (hc : X.calm = true) (hi : PI X tg iter wi) (hg : PG X tg g) (hb : PSs X body tb)
  (hs : ∀ x, foldedSetIterable iter X.env x = pure x := by intro _; rfl) : PS X (.For tg iter body [] pos) (tFor wi g tb) := by
 intro pins s σ H D I h
 refine wpAny_For (thn (hi pins s σ H _ I h) fun v s1 h1 => thn h1 fun itv s2 h2 => ?_) hs
 obtain ⟨it, fp, tn, J, H2, e, I2, T, st2, f2, W, ⟨m0, w0⟩, turn⟩ := h2
 subst e
 have stat : ∀ {H' : Hp}, (∀ b ∈ fp, H' b = none) → ∀ b ∈ fp, FpOk X pins H' b := fun hn b hb => ⟨hn b hb, (f2 b hb).2⟩
 refine codeAny_forLoop_any (fun n s' => ∃ i σ' H', Inv X pins σ' H' s' ∧ tn i s'.heap ∧ (∀ b ∈ fp, H' b = none) ∧ W i n σ' H') ?_ m0 ⟨0, σ, H2, I2, st2, fun b hb => (f2 b hb).1, w0⟩
 rintro n s3 ⟨i, σ3, H3, I3, st3, fr3, w3⟩
 rcases turn i n σ3 H3 w3 with ⟨stop, qn⟩ | ⟨go, N, hN, step⟩
 ·refine wpAny_passesOwn hp (thn (T.done X rfl rfl rfl hc i pins s3 σ3 H3 X.xe I3 (stat fr3) st3 stop) fun r s4 ⟨hr, I4⟩ => ?_)
  subst hr
  exact wpAny_execs_nil ⟨σ3, H3, I4, qn⟩
 ·refine wpAny_passesOwn hp (thn (T.item X rfl rfl rfl hc i pins s3 σ3 H3 X.xe I3 (stat fr3) st3 go) fun r s4 ⟨u, hr, h4⟩ => ?_)
  subst hr
  refine wpAny_passesOwn hp (thn h4 fun _ s5 ⟨x, H5, I5, r5, y5, st5, fr5⟩ => ?_)
  have I5' := I5.pinned (stat fr5) (T.obj _ _ st5)
  refine wpAny_passesOwn hp (thn (hg _ s5 σ3 H5 x u _ I5' r5 (step x H5 y5)) fun _ s6 ⟨σ6, H6, I6, q6⟩ => ?_)
  refine wpAny_passesOwn hp (thn (hb _ s6 σ6 H6 _ I6 q6) fun f s7 q7 => ?_)
  have again : ∀ {σ7 : St} {H7 : Hp}, Inv X (pins ++ pinsAt fp s5.heap) σ7 H7 s7 → N σ7 H7 → ∃ m, m < n ∧ ∃ i σ' H', Inv X pins σ' H' s7 ∧ tn i s7.heap ∧ (∀ b ∈ fp, H' b = none) ∧ W i m σ' H' := fun {σ7 H7} I7 n7 => by
   obtain ⟨m', hm, w7⟩ := hN σ7 H7 n7
   refine ⟨m', hm, i + 1, σ7, H7, I7.unpinned, T.keep _ _ _ st5 fun b hb o e => (I7.pin (b, o) (List.mem_append_right _ (List.mem_append_right _ (mem_pinsAt hb e)))).1, fun b hb => ?_, w7⟩
   obtain ⟨o, e, d⟩ := T.obj _ _ st5 b hb
   exact (I7.pin (b, o) (List.mem_append_right _ (List.mem_append_right _ (mem_pinsAt hb e)))).2.1
  cases f with
  | next => obtain ⟨σ7, H7, I7, n7⟩ := q7; exact again I7 n7
  | cont => obtain ⟨σ7, H7, I7, n7⟩ := q7; exact again I7 n7
  | brk => obtain ⟨σ7, H7, I7, q7⟩ := q7; exact ⟨σ7, H7, I7.unpinned, q7⟩
  | ret v => obtain ⟨x7, σ7, H7, I7, r7, q7⟩ := q7; exact ⟨x7, σ7, H7, I7.unpinned, r7, q7⟩
end
theorem for_list {K : PySem.W.Frag} {a : Addr} {xs : List V} {g : TG} {tb : TS} {D : Ends} {σ : St} {H : Hp} (Pv : Nat → St → Hp → Prop) (h0 : Pv 0 σ H) (hl : ∀ i σ H, i ≤ xs.length → Pv i σ H → SqL K H a xs)
  (hs : ∀ i x σ H, xs[i]? = some x → Pv i σ H → g x σ H fun σ2 H2 => tb { D with nx := Pv (i + 1), ct := Pv (i + 1), bk := D.nx } σ2 H2) (hd : ∀ σ H, Pv xs.length σ H → D.nx σ H) :
  ∃ W : Nat → Nat → St → Hp → Prop, (∃ m, W 0 m σ H) ∧ ∀ i m σ H, W i m σ H →
   ((Itl K a).stop i H ∧ D.nx σ H) ∨ ((Itl K a).go i H ∧ ∃ N : St → Hp → Prop, (∀ σ' H', N σ' H' → ∃ m', m' < m ∧ W (i + 1) m' σ' H') ∧ ∀ x H', (Itl K a).yld i H x H' → g x σ H' fun σ2 H2 => tb { D with nx := N, ct := N, bk := D.nx } σ2 H2) := by
 refine ⟨fun i m σ H => m = xs.length - i ∧ i ≤ xs.length ∧ Pv i σ H, ⟨xs.length, by simp, Nat.zero_le _, h0⟩, ?_⟩
 rintro i m σ H ⟨rfl, hi, p⟩
 have q := hl i σ H hi p
 by_cases hlt : i < xs.length
 ·refine .inr ⟨⟨xs, xs[i], q, by simp [hlt]⟩, Pv (i + 1), fun σ' H' p' => ⟨xs.length - (i + 1), by omega, rfl, hlt, p'⟩, fun x H' y => ?_⟩
  obtain ⟨e, y⟩ := y
  subst e
  exact hs i x σ _ (y xs q) p
 ·have e : i = xs.length := by omega
  subst e
  exact .inl ⟨⟨xs, q, Nat.le_refl _⟩, hd σ H p⟩
theorem for_tup {K : PySem.W.Frag} {a : Addr} {xs : List V} {g : TG} {tb : TS} {D : Ends} {σ : St} {H : Hp} (Pv : Nat → St → Hp → Prop) (h0 : Pv 0 σ H) (hl : ∀ i σ H, i ≤ xs.length → Pv i σ H → SqT K H a xs)
  (hs : ∀ i x σ H, xs[i]? = some x → Pv i σ H → g x σ H fun σ2 H2 => tb { D with nx := Pv (i + 1), ct := Pv (i + 1), bk := D.nx } σ2 H2) (hd : ∀ σ H, Pv xs.length σ H → D.nx σ H) :
  ∃ W : Nat → Nat → St → Hp → Prop, (∃ m, W 0 m σ H) ∧ ∀ i m σ H, W i m σ H →
   ((Itt K a).stop i H ∧ D.nx σ H) ∨ ((Itt K a).go i H ∧ ∃ N : St → Hp → Prop, (∀ σ' H', N σ' H' → ∃ m', m' < m ∧ W (i + 1) m' σ' H') ∧ ∀ x H', (Itt K a).yld i H x H' → g x σ H' fun σ2 H2 => tb { D with nx := N, ct := N, bk := D.nx } σ2 H2) := by
 refine ⟨fun i m σ H => m = xs.length - i ∧ i ≤ xs.length ∧ Pv i σ H, ⟨xs.length, by simp, Nat.zero_le _, h0⟩, ?_⟩
 rintro i m σ H ⟨rfl, hi, p⟩
 have q := hl i σ H hi p
 by_cases hlt : i < xs.length
 ·refine .inr ⟨⟨xs, xs[i], q, by simp [hlt]⟩, Pv (i + 1), fun σ' H' p' => ⟨xs.length - (i + 1), by omega, rfl, hlt, p'⟩, fun x H' y => ?_⟩
  obtain ⟨e, y⟩ := y
  subst e
  exact hs i x σ _ (y xs q) p
 ·have e : i = xs.length := by omega
  subst e
  exact .inl ⟨⟨xs, q, Nat.le_refl _⟩, hd σ H p⟩
theorem for_range {lo : Int} {n : Nat} {g : TG} {tb : TS} {D : Ends} {σ : St} {H : Hp} (Pv : Nat → St → Hp → Prop) (h0 : Pv 0 σ H)
  (hs : ∀ i σ H, i < n → Pv i σ H → g (.int (lo + i)) σ H fun σ2 H2 => tb { D with nx := Pv (i + 1), ct := Pv (i + 1), bk := D.nx } σ2 H2) (hd : ∀ σ H, Pv n σ H → D.nx σ H) :
  ∃ W : Nat → Nat → St → Hp → Prop, (∃ m, W 0 m σ H) ∧ ∀ i m σ H, W i m σ H →
   ((Itr lo n).stop i H ∧ D.nx σ H) ∨ ((Itr lo n).go i H ∧ ∃ N : St → Hp → Prop, (∀ σ' H', N σ' H' → ∃ m', m' < m ∧ W (i + 1) m' σ' H') ∧ ∀ x H', (Itr lo n).yld i H x H' → g x σ H' fun σ2 H2 => tb { D with nx := N, ct := N, bk := D.nx } σ2 H2) := by
 refine ⟨fun i m σ H => m = n - i ∧ i ≤ n ∧ Pv i σ H, ⟨n, by simp, Nat.zero_le _, h0⟩, ?_⟩
 rintro i m σ H ⟨rfl, hi, p⟩
 by_cases hlt : i < n
 ·refine .inr ⟨hlt, Pv (i + 1), fun σ' H' p' => ⟨n - (i + 1), by omega, rfl, hlt, p'⟩, fun x H' y => ?_⟩
  obtain ⟨e, y⟩ := y
  subst e y
  exact hs i σ _ hlt p
 ·have e : i = n := by omega
  subst e
  exact .inl ⟨Nat.le_refl _, hd σ H p⟩
end L2
namespace L2
open PySem PySem.Spec PyProof.Rows
abbrev R2 := V → V → Hp → VK → Prop
def OpR (X : Cx) (f : Value → Value → Sem Value) (r : R2) : Prop :=
 ∀ (pins : List (Addr × Obj)) (s : Shared) (σ : St) (H : Hp) (x y : V) (v u : Value) (Q : VK), Inv X pins σ H s → RelV x v → RelV y u → r x y H Q →
  wpAny (model X.prog X.w) X.A (f v u) (EP X pins σ Q) X.xe s
def UnR (X : Cx) (f : Value → Sem Value) (r : V → Hp → VK → Prop) : Prop :=
 ∀ (pins : List (Addr × Obj)) (s : Shared) (σ : St) (H : Hp) (x : V) (v : Value) (Q : VK), Inv X pins σ H s → RelV x v → r x H Q →
  wpAny (model X.prog X.w) X.A (f v) (EP X pins σ Q) X.xe s
def CallR (X : Cx) (f : Value) (r : List V → Hp → VK → Prop) : Prop :=
 ∀ (pins : List (Addr × Obj)) (s : Shared) (σ : St) (H : Hp) (xs : List V) (us : List Value) (Q : VK), Inv X pins σ H s → Vals xs us → r xs H Q →
  wpAny (model X.prog X.w) X.A (call f us) (EP X pins σ Q) X.xe s
def tOp (r : R2) (ta tb : TE) : TE := fun σ H Q => ta σ H fun x H1 => tb σ H1 fun y H2 => r x y H2 Q
def tUn (r : V → Hp → VK → Prop) (ta : TE) : TE := fun σ H Q => ta σ H fun x H1 => r x H1 Q
def rI (C : Int → Int → Prop) (g : Int → Int → V) : R2 := fun x y H Q => ∃ i j, x = .int i ∧ y = .int j ∧ C i j ∧ Q (g i j) H
def rI0 (g : Int → Int → V) : R2 := fun x y H Q => ∃ i j, x = .int i ∧ y = .int j ∧ Q (g i j) H
def rU (g : Int → V) : V → Hp → VK → Prop := fun x H Q => ∃ i, x = .int i ∧ Q (g i) H
section
variable {X : Cx} {a b c : Expr} {ta tb tc : TE} {pos : Pos}
theorem binT (ha : PE X a ta) (hb : PE X b tb) {pins : List (Addr × Obj)} {s : Shared} {σ : St} {H : Hp} {R : V → V → Hp → Prop} (I : Inv X pins σ H s)
  (h : ta σ H fun x H1 => tb σ H1 fun y H2 => R x y H2) {Q : Value → Shared → Prop} {f : Value → Value → Sem Value}
  (hf : ∀ v u s2 x y H2, Inv X pins σ H2 s2 → RelV x v → RelV y u → R x y H2 → wpAny (model X.prog X.w) X.A (f v u) Q X.xe s2) :
  wpAny (model X.prog X.w) X.A (eval a X.env) (fun v s₁ => wpAny (model X.prog X.w) X.A (eval b X.env) (fun u s₂ => wpAny (model X.prog X.w) X.A (f v u) Q X.xe s₂) X.xe s₁) X.xe s := by
 refine thn (ha pins s σ H _ I h) fun v s1 ⟨x, H1, I1, r1, q1⟩ => ?_
 refine thn (hb pins s1 σ H1 _ I1 q1) fun u s2 ⟨y, H2, I2, r2, q2⟩ => ?_
 exact hf v u s2 x y H2 I2 r1 r2 q2
theorem pe_op {op : Operator} {r : R2} (ho : OpR X (binaryOp op) r) (ha : PE X a ta) (hb : PE X b tb) : PE X (.BinOp a op b pos) (tOp r ta tb) := by
 intro pins s σ H Q I h
 exact wpAny_BinOp (binT ha hb I h fun v u s2 x y H2 I2 rx ry q => ho pins s2 σ H2 x y v u Q I2 rx ry q)
theorem pe_un {op : UnaryOp} {r : V → Hp → VK → Prop} (ho : UnR X (unaryOp op) r) (ha : PE X a ta) : PE X (.UnaryOp op a pos) (tUn r ta) := by
 intro pins s σ H Q I h
 exact UnaryOp_ (thn (ha pins s σ H _ I h) fun v s1 ⟨x, H1, I1, r1, q1⟩ => ho pins s1 σ H1 x v Q I1 r1 q1)
theorem opI {f : Value → Value → Sem Value} {C : Int → Int → Prop} {g : Int → Int → Int}
  (rule : ∀ (i j : Int) (t u : Tok) (s : Shared) (Q : Value → Shared → Prop) (E : Value → Shared → Prop), C i j → Q (.int (g i j) s.toks) { s with toks := s.toks + 1 } → wpAny (model X.prog X.w) X.A (f (.int i t) (.int j u)) Q E s) :
  OpR X f (rI C fun i j => .int (g i j)) := by
 intro pins s σ H x y v u Q I rx ry h
 obtain ⟨i, j, rfl, rfl, hc, q⟩ := h
 obtain ⟨t, rfl⟩ := rx
 obtain ⟨t', rfl⟩ := ry
 exact rule i j t t' s _ _ hc ⟨.int (g i j), H, I.tok _, ⟨_, rfl⟩, q⟩
theorem opI0 {f : Value → Value → Sem Value} {g : Int → Int → Int}
  (rule : ∀ (i j : Int) (t u : Tok) (s : Shared) (Q : Value → Shared → Prop) (E : Value → Shared → Prop), Q (.int (g i j) s.toks) { s with toks := s.toks + 1 } → wpAny (model X.prog X.w) X.A (f (.int i t) (.int j u)) Q E s) :
  OpR X f (rI0 fun i j => .int (g i j)) := by
 intro pins s σ H x y v u Q I rx ry h
 obtain ⟨i, j, rfl, rfl, q⟩ := h
 obtain ⟨t, rfl⟩ := rx
 obtain ⟨t', rfl⟩ := ry
 exact rule i j t t' s _ _ ⟨.int (g i j), H, I.tok _, ⟨_, rfl⟩, q⟩
theorem opB0 {f : Value → Value → Sem Value} {g : Int → Int → Bool}
  (rule : ∀ (i j : Int) (t u : Tok) (s : Shared) (Q : Value → Shared → Prop) (E : Value → Shared → Prop), Q (.bool (g i j)) s → wpAny (model X.prog X.w) X.A (f (.int i t) (.int j u)) Q E s) :
  OpR X f (rI0 fun i j => .bl (g i j)) := by
 intro pins s σ H x y v u Q I rx ry h
 obtain ⟨i, j, rfl, rfl, q⟩ := h
 obtain ⟨t, rfl⟩ := rx
 obtain ⟨t', rfl⟩ := ry
 exact rule i j t t' s _ _ ⟨.bl (g i j), H, I, rfl, q⟩
def CDiv (i j : Int) : Prop := 0 < j ∧ j < 1073741824
def CPow (i j : Int) : Prop := 0 ≤ j ∧ j ≤ 1000000 ∧ i.natAbs < 2 ^ 64
def CMul (i j : Int) : Prop := (-(2 ^ 64) < i ∧ i < 2 ^ 64) ∨ (-(2 ^ 64) < j ∧ j < 2 ^ 64)
theorem CMul.ok {i j : Int} (h : CMul i j) : IntMulOk i j := by
 rcases h with ⟨h1, h2⟩ | ⟨h1, h2⟩
 ·exact .of_left (intBits_le_64 h1 h2)
 ·exact .of_right (intBits_le_64 h1 h2)
theorem op_add : OpR X (binaryOp .Add) (rI0 fun i j => .int (i + j)) := opI0 fun _ _ _ _ _ _ _ q => add_int q
theorem op_sub : OpR X (binaryOp .Sub) (rI0 fun i j => .int (i - j)) := opI0 fun _ _ _ _ _ _ _ q => sub_int q
theorem op_mul : OpR X (binaryOp .Mult) (rI CMul fun i j => .int (i * j)) := opI fun _ _ _ _ _ _ _ hc q => mul_int q hc.ok
theorem op_fdiv : OpR X (binaryOp .FloorDiv) (rI CDiv fun i j => .int (i / j)) := opI fun i j _ _ _ _ _ hc q => by
 have h1 : (0 : Int) < j := hc.1
 have h2 : j < 1073741824 := hc.2
 exact floordiv_int (by omega) (by rw [Int.fdiv_eq_ediv_of_nonneg i (by omega)]; exact q) (.inl (PyProof.noPylong_small (by omega)))
theorem op_mod : OpR X (binaryOp .Mod) (rI (fun _ j => 0 < j) fun i j => .int (i % j)) := opI fun i j _ _ _ _ _ hc q => by
 have h1 : (0 : Int) < j := hc
 exact mod_int' (by omega) (by rw [Int.fmod_eq_emod_of_nonneg i (by omega)]; exact q)
theorem op_pow : OpR X (binaryOp .Pow) (rI CPow fun i j => .int (i ^ j.toNat)) := opI fun _ _ _ _ _ _ _ hc q => pow_int_small hc.1 hc.2.1 hc.2.2 q
theorem unI {f : Value → Sem Value} {g : Int → Int}
  (rule : ∀ (i : Int) (t : Tok) (s : Shared) (Q : Value → Shared → Prop) (E : Value → Shared → Prop), Q (.int (g i) s.toks) { s with toks := s.toks + 1 } → wpAny (model X.prog X.w) X.A (f (.int i t)) Q E s) :
  UnR X f (rU fun i => .int (g i)) := by
 intro pins s σ H x v Q I rx h
 obtain ⟨i, rfl, q⟩ := h
 obtain ⟨t, rfl⟩ := rx
 exact rule i t s _ _ ⟨.int (g i), H, I.tok _, ⟨_, rfl⟩, q⟩
theorem un_neg : UnR X (unaryOp .USub) (rU fun i => .int (-i)) := unI fun _ _ _ _ _ q => neg_int q
end
def scal : V → V → Bool
 | .non, .non => true | .non, .int _ => true | .int _, .non => true | .non, .bl _ => true | .bl _, .non => true | .non, .str _ => true | .str _, .non => true
 | .int _, .int _ => true | .bl _, .bl _ => true | .str _, .str _ => true | .byt _, .byt _ => true
 | .int _, .str _ => true | .str _, .int _ => true | .bl _, .str _ => true | .str _, .bl _ => true
 | _, _ => false
def rEq : R2 := fun x y H Q => scal x y = true ∧ Q (.bl (decide (x = y))) H
def rNe : R2 := fun x y H Q => scal x y = true ∧ Q (.bl (!decide (x = y))) H
theorem dec_int {i j : Int} : decide (V.int i = V.int j) = (i == j) := by
 rw [Bool.eq_iff_iff]
 simp
theorem dec_bl {i j : Bool} : decide (V.bl i = V.bl j) = (i == j) := by
 rw [Bool.eq_iff_iff]
 simp
theorem dec_str {i j : Str} : decide (V.str i = V.str j) = (i == j) := by
 rw [Bool.eq_iff_iff]
 simp
theorem dec_byt {i j : Array UInt8} : decide (V.byt i = V.byt j) = (i.toList == j.toList) := by
 rw [Bool.eq_iff_iff]
 cases i
 cases j
 simp
section
variable {X : Cx} {a b c : Expr} {ta tb tc : TE} {pos : Pos}
theorem fin_bl {pins : List (Addr × Obj)} {σ : St} {H : Hp} {s : Shared} {Q : VK} {k k' : Bool} (I : Inv X pins σ H s) (q : Q (.bl k) H) (e : k = k') : EP X pins σ Q (.bool k') s := by
 subst e
 exact ⟨.bl k, H, I, rfl, q⟩
theorem op_eq : OpR X (compareOp .Eq) rEq := by
 intro pins s σ H x y v u Q I rx ry h
 obtain ⟨hs, q⟩ := h
 cases x with
 | non =>
  cases rx
  cases y with
  | non => cases ry; exact PySem.EqNone.eq_none_none (fin_bl I q (by simp))
  | bl j => cases ry; exact PySem.EqNone.eq_none_bool (fin_bl I q (by simp))
  | int j => obtain ⟨t', rfl⟩ := ry; exact PySem.EqNone.eq_none_int (fin_bl I q (by simp))
  | str j => obtain ⟨t', rfl⟩ := ry; exact PySem.EqNone.eq_none_str (fin_bl I q (by simp))
  | _ => exact absurd (show false = true from hs) Bool.false_ne_true
 | bl i =>
  cases rx
  cases y with
  | non => cases ry; exact PySem.EqNone.eq_bool_none (fin_bl I q (by simp))
  | bl j => cases ry; exact eq_bool (fin_bl I q dec_bl)
  | str j => obtain ⟨t', rfl⟩ := ry; exact PySem.EqMixed.eq_bool_str (fin_bl I q (by simp))
  | _ => exact absurd (show false = true from hs) Bool.false_ne_true
 | int i =>
  obtain ⟨t, rfl⟩ := rx
  cases y with
  | non => cases ry; exact PySem.EqNone.eq_int_none (fin_bl I q (by simp))
  | int j => obtain ⟨t', rfl⟩ := ry; exact eq_int (fin_bl I q dec_int)
  | str j => obtain ⟨t', rfl⟩ := ry; exact PySem.EqMixed.eq_int_str (fin_bl I q (by simp))
  | _ => exact absurd (show false = true from hs) Bool.false_ne_true
 | str i =>
  obtain ⟨t, rfl⟩ := rx
  cases y with
  | non => cases ry; exact PySem.EqNone.eq_str_none (fin_bl I q (by simp))
  | bl j => cases ry; exact PySem.EqMixed.eq_str_bool (fin_bl I q (by simp))
  | int j => obtain ⟨t', rfl⟩ := ry; exact PySem.EqMixed.eq_str_int (fin_bl I q (by simp))
  | str j => obtain ⟨t', rfl⟩ := ry; exact eq_str (fin_bl I q dec_str)
  | _ => exact absurd (show false = true from hs) Bool.false_ne_true
 | byt i =>
  obtain ⟨t, rfl⟩ := rx
  cases y with
  | byt j => obtain ⟨t', rfl⟩ := ry; exact W.eq_bytes (fin_bl I q dec_byt)
  | _ => exact absurd (show false = true from hs) Bool.false_ne_true
 | _ => cases y <;> exact absurd (show false = true from hs) Bool.false_ne_true
theorem op_ne : OpR X (compareOp .NotEq) rNe := by
 intro pins s σ H x y v u Q I rx ry h
 obtain ⟨hs, q⟩ := h
 cases x with
 | non =>
  cases rx
  cases y with
  | non => cases ry; exact PySem.EqNone.ne_none_none (fin_bl I q (by simp))
  | bl j => cases ry; exact PySem.EqNone.ne_none_bool (fin_bl I q (by simp))
  | int j => obtain ⟨t', rfl⟩ := ry; exact PySem.EqNone.ne_none_int (fin_bl I q (by simp))
  | str j => obtain ⟨t', rfl⟩ := ry; exact PySem.EqNone.ne_none_str (fin_bl I q (by simp))
  | _ => exact absurd (show false = true from hs) Bool.false_ne_true
 | bl i =>
  cases rx
  cases y with
  | non => cases ry; exact PySem.EqNone.ne_bool_none (fin_bl I q (by simp))
  | bl j => cases ry; exact ne_bool (fin_bl I q (congrArg not dec_bl))
  | str j => obtain ⟨t', rfl⟩ := ry; exact PySem.EqMixed.ne_bool_str (fin_bl I q (by simp))
  | _ => exact absurd (show false = true from hs) Bool.false_ne_true
 | int i =>
  obtain ⟨t, rfl⟩ := rx
  cases y with
  | non => cases ry; exact PySem.EqNone.ne_int_none (fin_bl I q (by simp))
  | int j => obtain ⟨t', rfl⟩ := ry; exact ne_int (fin_bl I q (congrArg not dec_int))
  | str j => obtain ⟨t', rfl⟩ := ry; exact PySem.EqMixed.ne_int_str (fin_bl I q (by simp))
  | _ => exact absurd (show false = true from hs) Bool.false_ne_true
 | str i =>
  obtain ⟨t, rfl⟩ := rx
  cases y with
  | non => cases ry; exact PySem.EqNone.ne_str_none (fin_bl I q (by simp))
  | bl j => cases ry; exact PySem.EqMixed.ne_str_bool (fin_bl I q (by simp))
  | int j => obtain ⟨t', rfl⟩ := ry; exact PySem.EqMixed.ne_str_int (fin_bl I q (by simp))
  | str j => obtain ⟨t', rfl⟩ := ry; exact ne_str (fin_bl I q (congrArg not dec_str))
  | _ => exact absurd (show false = true from hs) Bool.false_ne_true
 | byt i =>
  obtain ⟨t, rfl⟩ := rx
  cases y with
  | byt j => obtain ⟨t', rfl⟩ := ry; exact W.ne_bytes (fin_bl I q (congrArg not dec_byt))
  | _ => exact absurd (show false = true from hs) Bool.false_ne_true
 | _ => cases y <;> exact absurd (show false = true from hs) Bool.false_ne_true
theorem op_lt : OpR X (compareOp .Lt) (rI0 fun i j => .bl (decide (i < j))) := opB0 fun _ _ _ _ _ _ _ q => lt_int q
theorem op_le : OpR X (compareOp .LtE) (rI0 fun i j => .bl (decide (i ≤ j))) := opB0 fun _ _ _ _ _ _ _ q => le_int q
theorem op_gt : OpR X (compareOp .Gt) (rI0 fun i j => .bl (decide (j < i))) := opB0 fun _ _ _ _ _ _ _ q => gt_int q
theorem op_ge : OpR X (compareOp .GtE) (rI0 fun i j => .bl (decide (j ≤ i))) := opB0 fun _ _ _ _ _ _ _ q => ge_int q
theorem op_in_str : OpR X (compareOp .In) (fun x y H Q => ∃ i j, x = .str i ∧ y = .str j ∧ Q (.bl (!(Builtin.Str.occurrences j i 0 j.length 1).isEmpty)) H) := by
 intro pins s σ H x y v u Q I rx ry h
 obtain ⟨i, j, rfl, rfl, q⟩ := h
 obtain ⟨t, rfl⟩ := rx
 obtain ⟨t', rfl⟩ := ry
 exact in_str (fin_bl I q rfl)
theorem op_isN : OpR X (compareOp .Is) (fun x y H Q => y = .non ∧ Q (.bl (decide (x = .non))) H) := by
 intro pins s σ H x y v u Q I rx ry h
 obtain ⟨rfl, q⟩ := h
 cases ry
 refine is_none_gen (fin_bl I q ?_)
 cases x <;> first
  | (cases rx; rfl)
  | (obtain ⟨t, rfl⟩ := rx; rfl)
theorem nomark (b : Expr) {op : CmpOp} (h : op ≠ .In := by decide) (h2 : op ≠ .NotIn := by decide) : behindInMarks op b = false := by
 have e1 : (op == CmpOp.In) = false := by cases op <;> first | rfl | exact absurd rfl h
 have e2 : (op == CmpOp.NotIn) = false := by cases op <;> first | rfl | exact absurd rfl h2
 cases b <;> simp [behindInMarks, e1, e2]
theorem pe_cmpR {op : CmpOp} {r : R2} (ho : OpR X (compareOp op) r) (ha : PE X a ta) (hb : PE X b tb) (hm : behindInMarks op b = false) : PE X (.Compare a [op] [b] pos) (tOp r ta tb) := by
 intro pins s σ H Q I h
 exact wpAny_Compare1 (binT ha hb I h fun v u s2 x y H2 I2 rx ry q => ho pins s2 σ H2 x y v u Q I2 rx ry q) hm
def tTest (t : TE) : TT := fun σ H Q => t σ H fun x H' => ∃ k, x = .bl k ∧ Q k H'
theorem pt_cmpR {op : CmpOp} {r : R2} (ho : OpR X (compareOp op) r) (ha : PE X a ta) (hb : PE X b tb) (hm : behindInMarks op b = false) : PT X (.Compare a [op] [b] pos) (tTest (tOp r ta tb)) := by
 intro pins s σ H Q I h
 refine wpAny_isTrue_Compare1 (thn (ha pins s σ H _ I h) fun v s1 ⟨x, H1, I1, r1, q1⟩ => thn (hb pins s1 σ H1 _ I1 q1) fun u s2 ⟨y, H2, I2, r2, q2⟩ =>
  thn (ho pins s2 σ H2 x y v u _ I2 r1 r2 q2) fun c s3 ⟨z, H3, I3, r3, k, e, q3⟩ => ?_) hm
 subst e
 cases r3
 exact wpAny_truthy_bool ⟨H3, I3, q3⟩
def tChain (r r' : R2) (ta tb tc : TE) : TE := fun σ H Q => ta σ H fun x H1 => tb σ H1 fun y H2 => r x y H2 fun z H3 => ∃ k, z = .bl k ∧
 (if k = true then tc σ H3 fun w' H4 => r' y w' H4 Q else Q (.bl false) H3)
theorem pe_chain {op op' : CmpOp} {r r' : R2} (ho : OpR X (compareOp op) r) (ho' : OpR X (compareOp op') r') (ha : PE X a ta) (hb : PE X b tb) (hc : PE X c tc)
  (hm : lastMarks [op, op'] [b, c] = false := by with_unfolding_all rfl) : PE X (.Compare a [op, op'] [b, c] pos) (tChain r r' ta tb tc) := by
 intro pins s σ H Q I h
 refine Compare_chain (thn (ha pins s σ H _ I h) fun v s1 ⟨x, H1, I1, r1, q1⟩ => chain_link (thn (hb pins s1 σ H1 _ I1 q1) fun u s2 ⟨y, H2, I2, r2, q2⟩ =>
  thn (ho pins s2 σ H2 x y v u _ I2 r1 r2 q2) fun d s3 ⟨z, H3, I3, r3, k, e, q3⟩ => ?_)) hm
 subst e
 cases r3
 refine wpAny_truthy_bool ?_
 cases k with
 | false => exact ite_ff ⟨.bl false, H3, I3, rfl, q3⟩
 | true => exact ite_tt (chain_last (thn (hc pins s3 σ H3 _ I3 q3) fun w' s4 ⟨z', H4, I4, r4, q4⟩ => ho' pins s4 σ H4 y z' u w' Q I4 r2 r4 q4))
theorem pt_chain {op op' : CmpOp} {r r' : R2} (ho : OpR X (compareOp op) r) (ho' : OpR X (compareOp op') r') (ha : PE X a ta) (hb : PE X b tb) (hc : PE X c tc)
  (hm : lastMarks [op, op'] [b, c] = false := by with_unfolding_all rfl) : PT X (.Compare a [op, op'] [b, c] pos) (tTest (tChain r r' ta tb tc)) := by
 intro pins s σ H Q I h
 refine isTrue_chain (thn (ha pins s σ H _ I h) fun v s1 ⟨x, H1, I1, r1, q1⟩ => test_link (thn (hb pins s1 σ H1 _ I1 q1) fun u s2 ⟨y, H2, I2, r2, q2⟩ =>
  thn (ho pins s2 σ H2 x y v u _ I2 r1 r2 q2) fun d s3 ⟨z, H3, I3, r3, k, e, q3⟩ => ?_)) hm
 subst e
 cases r3
 refine wpAny_truthy_bool ?_
 cases k with
 | false =>
  obtain ⟨k', e', q'⟩ := q3
  cases e'
  exact ite_ff ⟨H3, I3, q'⟩
 | true =>
  refine ite_tt (test_last (thn (hc pins s3 σ H3 _ I3 q3) fun w' s4 ⟨z', H4, I4, r4, q4⟩ => thn (ho' pins s4 σ H4 y z' u w' _ I4 r2 r4 q4) fun d' s5 ⟨z2, H5, I5, r5, k2, e2, q5⟩ => ?_))
  subst e2
  cases r5
  exact wpAny_truthy_bool ⟨H5, I5, q5⟩
theorem line63 : (sizeLine : Nat) < 2 ^ 63 := by rw [sizeLine_eq]; decide
theorem op_add_str : OpR X (binaryOp .Add) (fun x y H Q => ∃ i j, x = .str i ∧ y = .str j ∧ i.length + j.length ≤ sizeLine ∧ Q (.str (i ++ j)) H) := by
 intro pins s σ H x y v u Q I rx ry h
 obtain ⟨i, j, rfl, rfl, hz, q⟩ := h
 obtain ⟨t, rfl⟩ := rx
 obtain ⟨t', rfl⟩ := ry
 exact add_str (fun t' tk => ⟨.str (i ++ j), H, I.tok _, ⟨_, rfl⟩, q⟩) hz
def PlainIxT (b : Expr) : Prop := ∀ o i, subscripted b false o i = operate [o, i] (getItem o i)
theorem pe_item_str (ha : PE X a ta) (hb : PE X b tb) (hs : PlainIxT b) :
  PE X (.Subscript a b pos) (tOp (fun x y H Q => ∃ z i c, x = .str z ∧ y = .int i ∧ 0 ≤ i ∧ i < 2 ^ 63 ∧ i < z.length ∧ z.cps[i.toNat]? = some c ∧ Q (.str ⟨#[c]⟩) H) ta tb) := by
 intro pins s σ H Q I h
 refine Subscript_ (binT ha hb I h fun v u s2 x y H2 I2 rx ry q => ?_)
 obtain ⟨z, i, c, rfl, rfl, h0, h63, h1, hc, q⟩ := q
 obtain ⟨t, rfl⟩ := rx
 obtain ⟨t', rfl⟩ := ry
 have e : seqIndex? i z.length = some i.toNat := PySem.StrLaws.seqIndex_nonneg h0 h1
 exact tail_any (typeIs_str s2 z t) slot_str_getitem.lookup (getItem_str (c := c) (by
  have e1 : decide (i < -(2 ^ 63 : Int)) = false := decide_eq_false (by omega)
  have e2 : decide (i ≥ 2 ^ 63) = false := decide_eq_false (by omega)
  rw [e1, e2] <;> rfl) (by rw [e]; exact hc) ⟨.str ⟨#[c]⟩, H2, I2.tok _, ⟨_, rfl⟩, q⟩) (hs _ _)
theorem vals1 {x : V} {us : List Value} (r : Vals [x] us) : ∃ u, us = [u] ∧ RelV x u := by
 cases r with
 | cons r1 r2 => cases r2; exact ⟨_, rfl, r1⟩
theorem call_int1 : CallR X (.type "int") (fun xs H Q => (∃ i, xs = [.int i] ∧ Q (.int i) H) ∨ ∃ k, xs = [.bl k] ∧ Q (.int (if k then 1 else 0)) H) := by
 intro pins s σ H xs us Q I r h
 rcases h with ⟨i, rfl, q⟩ | ⟨k, rfl, q⟩
 ·obtain ⟨u, rfl, t, rfl⟩ := vals1 r
  exact call_int_int ⟨.int i, H, I, ⟨_, rfl⟩, q⟩
 ·obtain ⟨u, rfl, r1⟩ := vals1 r
  cases r1
  exact call_int_bool ⟨.int (if k then 1 else 0), H, I.tok _, ⟨_, rfl⟩, q⟩
theorem call_str_int : CallR X (.type "str") (fun xs H Q => ∃ i, xs = [.int i] ∧ i.natAbs.log2 < 1920 ∧ Q (.str (toString i)) H) := by
 intro pins s σ H xs us Q I r h
 obtain ⟨i, rfl, hz, q⟩ := h
 obtain ⟨u, rfl, t, rfl⟩ := vals1 r
 exact PySem.P.str_of_int hz ⟨.str _, H, I.tok _, ⟨_, rfl⟩, q⟩
end
end L2
namespace L2
open PySem PySem.Spec PyProof.Rows
structure ObjM (h : Heap) (x dx C : Addr) (mA : Str → Option Value) : Prop where
 obj : h.get? x = some (W.instObj C dx)
 ns : h.Ns1 dx mA
 ne : dx ≠ x
theorem lookIn_ns {h : Heap} {dx : Addr} {mA : Str → Option Value} (n : h.Ns1 dx mA) : ∃ od, h.get? dx = some od ∧ ∀ name, W.lookIn name od = some (mA name) := by
 obtain ⟨o, es, ep, ho, hd, hk, _, hm⟩ := n
 refine ⟨o, ho, fun name => ?_⟩
 have e := hm name
 unfold nsFind findBy at e
 rw [← Array.find?_toList] at e
 unfold W.lookIn
 rw [hd]
 dsimp only
 split
 ·rename_i y q
  rw [q] at e
  exact congrArg some e
 ·rename_i q
  rw [q] at e
  have a : es.toList.any (·.refKey) = false := by
   rw [List.any_eq_false]
   intro y hy
   obtain ⟨z, t, hkey⟩ := hk y (Array.mem_toList_iff.mp hy)
   simp [DictEntry.refKey, hkey]
  have a' : ¬ es.toList.any (·.refKey) = true := by rw [a]; exact Bool.false_ne_true
  rw [if_neg a']
  exact congrArg some e
theorem ObjM.look {h : Heap} {x dx C : Addr} {mA : Str → Option Value} (I : ObjM h x dx C mA) : ∃ od, W.InstAt h x (W.instObj C dx) C (some od) ∧ ∀ name, W.lookIn name od = some (mA name) :=
 let ⟨od, ho, hl⟩ := lookIn_ns I.ns
 ⟨od, ⟨I.obj, rfl, rfl, ho⟩, hl⟩
section
variable {prog : Program} {w : World} {A : Around} {E : Value → Shared → Prop} {s : Shared} {K : W.Frag} {x dx C f : Addr} {mA : Str → Option Value} {name : Str} {v : Value}
theorem get_map {expr : Bool} {Q : Value → Shared → Prop} (X : K.In s.heap) (I : ObjM s.heap x dx C mA) (hg : W.plainGet K C name = true) (hh : W.hasDictIn K C = true)
  (ha : W.findIn K (.ref C) name = some none) (hv : mA name = some v) (hv' : W.handedIn v = true) (h : Q v { s with toks := s.toks + 1 }) :
  wpAny (model prog w) A (getAttr (.ref x) name expr) Q E s := by
 obtain ⟨od, J, hl⟩ := I.look
 exact W.get_value X J (W.plainGet_of hg).1 (W.findObj_own hh ha rfl (by rw [hl, hv])) hv' h
theorem set_map {ns : List Str} {Q : Unit → Shared → Prop} (X : K.In s.heap) (I : ObjM s.heap x dx C mA)
  (hs : W.findIn K (.ref C) "__setattr__" = some (some (.builtin "object.__setattr__"))) (hp : W.plainOver K C = true) (ht : W.takerIn K C name = some none) (hh : W.hasDictIn K C = true)
  (hw : PySem.Within mA ns) (hsz : ns.length ≤ sizeLine)
  (h : ∀ h', ObjM h' x dx C (fun y => if y = name then some v else mA y) → Heap.SameBut dx s.heap h' → Q () { s with heap := h', toks := s.toks + 2 }) :
  wpAny (model prog w) A (setAttr (.ref x) name v) Q E s := by
 obtain ⟨od, J, hl⟩ := I.look
 refine W.set_plain X J hs (W.osa_open (s := { s with toks := s.toks + 1 }) (r := none) X J hp ht fun b => ?_)
 obtain ⟨cd, hc, hd'⟩ := W.any_some hh
 have hx : s.heap.get? x = some ⟨.ref C, some dx, .plain, #[]⟩ := I.obj
 refine wpAny_bind (wpAny_pure (wpAny_bind (wpAny_bind (wpAny_loadPart hx (wpAny_bind (W.Looks.here (s := { s with toks := s.toks + 1 }) (W.looks_clsIn X hc) ?_))))))
 rw [hd']
 refine wpAny_pure (a := some dx) (wpAny_bind (wpAny_pure (wpAny_bind ?_)))
 refine wpAny_nsSet1 (s := { s with toks := s.toks + 1 }) I.ns fun h' hn2 hs2 => ?_
 obtain ⟨oD, esD, epD, hoD, hdD, hcD⟩ := hn2.count (PySem.Within.cons name v hw)
 refine wpAny_bind (wpAny_lookBehind hoD (by rw [hdD]; exact pastItsLine_dict (Nat.le_trans hcD (by rw [List.length_cons]; omega))) ?_)
 exact wpAny_pure (h _ ⟨(hs2.2 _ (Ne.symm I.ne)).trans I.obj, hn2, I.ne⟩ hs2)
theorem make_map {R : Result → Shared → Prop} {vs : List Value} {kw : List (Str × Value)} (X : K.In s.heap) (hm : W.makesIn K C = true)
  (hi : W.findIn K (.ref C) "__init__" = some (some (.ref f))) (hf : W.typeIn K (.ref f) = some (.type "function"))
  (h : codeAny (model prog w) (A.under (.builtin "type.__call__" ⟨.ref C :: vs, kw⟩)) (.call (.ref f) ⟨.ref (s.heap.objs.size + 1) :: vs, kw⟩) (W.InitBack (s.heap.objs.size + 1) R)
   {s with heap := (s.heap.push W.emptyDict).push (W.instObj C s.heap.objs.size) }) :
  codeAny (model prog w) A (.call (.ref C) ⟨vs, kw⟩) R s := by
 obtain ⟨hh, g, d, t, os⟩ := s
 exact W.make_core (W.makes_of X hm) (W.looks_findIn X hi) (fun self => W.bind_fn X self hf) (.inl rfl) h
end
def putF (f : Str) (v : V) : List (Str × V) → List (Str × V)
 | [] => [(f, v)]
 | (g, x) :: r => if g = f then (g, v) :: r else (g, x) :: putF f v r
theorem lookup_putF (f g : Str) (v : V) : ∀ fs : List (Str × V), (putF f v fs).lookup g = if g = f then some v else fs.lookup g
 | [] => by
  show List.lookup g [(f, v)] = _
  by_cases h : g = f
  ·have hb : (g == f) = true := beq_iff_eq.mpr h
   simp only [List.lookup, hb, if_pos h]
  ·have hb : (g == f) = false := beq_eq_false_iff_ne.mpr h
   simp only [List.lookup, hb, if_neg h]
 | (k, x) :: r => by
  have ih := lookup_putF f g v r
  rw [show putF f v ((k, x) :: r) = (if k = f then (k, v) :: r else (k, x) :: putF f v r) from rfl]
  by_cases hk : k = f
  ·rw [if_pos hk]
   by_cases h : g = k
   ·have hb : (g == k) = true := beq_iff_eq.mpr h
    simp only [List.lookup, hb, if_pos (h.trans hk)]
   ·have hb : (g == k) = false := beq_eq_false_iff_ne.mpr h
    simp only [List.lookup, hb, if_neg (fun e : g = f => h (e.trans hk.symm))]
  ·rw [if_neg hk]
   by_cases h : g = k
   ·have hb : (g == k) = true := beq_iff_eq.mpr h
    simp only [List.lookup, hb, if_neg (fun e : g = f => hk (h.symm.trans e))]
   ·have hb : (g == k) = false := beq_eq_false_iff_ne.mpr h
    simp only [List.lookup, hb]
    exact ih
theorem keys_putF (f : Str) (v : V) : ∀ fs : List (Str × V), f ∈ (putF f v fs).map (·.1) ∧ ∀ g, g ∈ fs.map (·.1) → g ∈ (putF f v fs).map (·.1)
 | [] => ⟨by simp [putF], fun g h => by simp at h⟩
 | (k, x) :: r => by
  obtain ⟨i1, i2⟩ := keys_putF f v r
  rw [show putF f v ((k, x) :: r) = (if k = f then (k, v) :: r else (k, x) :: putF f v r) from rfl]
  by_cases hk : k = f
  ·rw [if_pos hk]
   subst hk
   exact ⟨by simp, fun g h => by simpa using h⟩
  ·rw [if_neg hk]
   refine ⟨?_, fun g h => ?_⟩
   ·rw [List.map_cons]
    exact List.mem_cons_of_mem _ i1
   ·rw [List.map_cons] at h ⊢
    rcases List.mem_cons.mp h with e | e
    ·exact List.mem_cons.mpr (.inl e)
    ·exact List.mem_cons_of_mem _ (i2 g e)
theorem length_putF (f : Str) (v : V) : ∀ fs : List (Str × V), (putF f v fs).length ≤ fs.length + 1
 | [] => by simp [putF]
 | (k, x) :: r => by
  have ih := length_putF f v r
  rw [show putF f v ((k, x) :: r) = (if k = f then (k, v) :: r else (k, x) :: putF f v r) from rfl]
  by_cases hk : k = f
  ·rw [if_pos hk, List.length_cons, List.length_cons]; omega
  ·rw [if_neg hk, List.length_cons, List.length_cons]; omega
theorem RelO.some_of {v : V} {o : Option Value} (r : RelO (some v) o) : ∃ u, o = some u ∧ RelV v u := by
 cases o with
 | none => exact (show False from r).elim
 | some u => exact ⟨u, rfl, r⟩
theorem handed_of {v : V} {u : Value} (r : RelV v u) : W.handedIn u = true := by
 cases v with
 | non => cases (show u = Value.none from r); rfl
 | bl b => cases (show u = Value.bool b from r); rfl
 | int i => obtain ⟨t, e⟩ := (show ∃ t, u = Value.int i t from r); cases e; rfl
 | str x => obtain ⟨t, e⟩ := (show ∃ t, u = Value.str x t from r); cases e; rfl
 | byt b => obtain ⟨t, e⟩ := (show ∃ t, u = Value.bytes b t from r); cases e; rfl
 | flt b => obtain ⟨t, e⟩ := (show ∃ t, u = Value.float b t from r); cases e; rfl
 | ref a => cases (show u = Value.ref a from r); rfl
 | ty n => cases (show u = Value.type n from r); rfl
section
variable {P : Program} {w : World} {H H' : Hp} {h h' : Heap} {a C dx : Addr} {fs fs' : List (Str × V)}
theorem ins_get (hok : HOk P w H h) (e : H a = some (.ins C dx fs)) : ∃ mA, ObjM h a dx C mA ∧ (∀ f, RelO (fs.lookup f) (mA f)) ∧ PySem.Within mA (fs.map (·.1)) ∧ fs.length ≤ 1000 ∧ H dx = some (.own a) := by
 obtain ⟨d, z, ne, ob, mA, n, r, q⟩ := (show ObjOk P w H h a (.ins C dx fs) from hok a _ e)
 exact ⟨mA, ⟨ob, n, ne⟩, r, q, z, d⟩
end
structure Cls (K : W.Frag) (C : Addr) : Prop where
 pg : W.plainGet K C Str.empty = true
 hd : W.hasDictIn K C = true
 po : W.plainOver K C = true
 sa : W.findIn K (.ref C) "__setattr__" = some (some (.builtin "object.__setattr__"))
theorem Cls.get {K : W.Frag} {C : Addr} (c : Cls K C) (f : Str) : W.plainGet K C f = true := c.pg
def NoAttr (K : W.Frag) (C : Addr) (f : Str) : Prop := W.findIn K (.ref C) f = some none
theorem NoAttr.taker {K : W.Frag} {C : Addr} {f : Str} (n : NoAttr K C f) : W.takerIn K C f = some none := by
 unfold W.takerIn
 rw [show W.findIn K (.ref C) f = some none from n]
 rfl
structure Con (K : W.Frag) (C : Addr) (f : Str) (v : V) (u : Value) : Prop where
 at_ : W.findIn K (.ref C) f = some (some u)
 rel : RelV v u
 get : W.specialIn K u "__get__" = some none
 cp : W.copiedNames.contains f = false
structure Meth (K : W.Frag) (C : Addr) (m : Str) (f : Addr) : Prop where
 at_ : W.findIn K (.ref C) m = some (some (.ref f))
 fn : W.isFn K (.ref f) = true
 kp : W.keepIn K (.ref f) = true
section
variable {X : Cx} {pins : List (Addr × Obj)} {σ : St} {H : Hp} {s : Shared} {a C dx : Addr} {fs : List (Str × V)} {f : Str} {v : V} {A : Around} {E : Value → Shared → Prop}
theorem getattr_ok {b : Bool} {Q : Value → Shared → Prop} (I : Inv X pins σ H s) (e : H a = some (.ins C dx fs)) (c : Cls X.K C) (n : NoAttr X.K C f) (l : fs.lookup f = some v)
  (h : ∀ u s', Inv X pins σ H s' → RelV v u → Q u s') : wpAny (model X.prog X.w) A (getAttr (.ref a) f b) Q E s := by
 obtain ⟨mA, O, r, _, _, _⟩ := ins_get I.hok e
 obtain ⟨u, hu, ru⟩ := RelO.some_of (v := v) (o := mA f) (by rw [← l]; exact r f)
 exact get_map I.kIn O (c.get f) c.hd n hu (handed_of ru) (h u _ (I.tok _) ru)
theorem setattr_ok {y : V} {u : Value} {Q : Unit → Shared → Prop} (I : Inv X pins σ H s) (e : H a = some (.ins C dx fs)) (c : Cls X.K C) (n : NoAttr X.K C f) (hl : fs.length < 1000) (ry : RelV y u)
  (h : ∀ s', Inv X pins σ (upd H a (.ins C dx (putF f y fs))) s' → Q () s') : wpAny (model X.prog X.w) A (setAttr (.ref a) f u) Q E s := by
 obtain ⟨mA, O, r, wi, _, ho⟩ := ins_get I.hok e
 have hz : (fs.map (·.1)).length ≤ sizeLine := by rw [List.length_map, sizeLine_eq]; omega
 refine set_map I.kIn O c.sa c.po n.taker c.hd wi hz fun h' O' sb => h _ ?_
 have hd : ∃ o, h'.get? dx = some o := let ⟨o, _, _, e', _⟩ := O'.ns; ⟨o, e'⟩
 refine I.write (x := a) (e := dx) (by rw [e]; exact True.intro) (.inr ho) (fun b q hb z => (sb.2 b hb).trans z) hd ?_
 refine ⟨by rw [upd_ne O.ne]; exact ho, ?_, O.ne, O'.obj, _, O'.ns, fun g => ?_, fun g hg => ?_⟩
 ·have := length_putF f y fs; omega
 ·show RelO ((putF f y fs).lookup g) (if g = f then some u else mA g)
  rw [lookup_putF]
  by_cases q : g = f
  ·rw [if_pos q, if_pos q]; exact ry
  ·rw [if_neg q, if_neg q]; exact r g
 ·by_cases q : g = f
  ·rw [q]; exact (keys_putF f y fs).1
  ·refine (keys_putF f y fs).2 g (wi g fun z => hg ?_)
   show (if g = f then some u else mA g) = none
   rw [if_neg q]; exact z
theorem Inv.made (I : Inv X pins σ H s) : Inv X pins σ (upd (upd H s.heap.objs.size (.own (s.heap.objs.size + 1))) (s.heap.objs.size + 1) (.ins C s.heap.objs.size []))
  {s with heap := (s.heap.push W.emptyDict).push (W.instObj C s.heap.objs.size) } := by
 have e1 : (s.heap.push W.emptyDict).get? s.heap.objs.size = some W.emptyDict := Heap.get?_push_size s.heap rfl
 have e2 : ((s.heap.push W.emptyDict).push (W.instObj C s.heap.objs.size)).get? (s.heap.objs.size + 1) = some (W.instObj C s.heap.objs.size) := by
  have := Heap.get?_push_size (s.heap.push W.emptyDict) (o := W.instObj C s.heap.objs.size) rfl
  rwa [Heap.size_push] at this
 have e3 : (s.heap.push W.emptyDict).Ns s.heap.objs.size (fun _ => none) := ⟨W.emptyDict, #[], _, e1, rfl, (fun e he => absurd he (by simp)), fun _ => rfl⟩
 have I1 := I.laid (a := s.heap.objs.size) (o := .own (s.heap.objs.size + 1)) (h' := s.heap.push W.emptyDict) (t' := s.toks) (fun b u q => Heap.get?_push_of_some _ q) (Nat.le_refl _) ⟨_, e1⟩
 refine I1.laid (a := s.heap.objs.size + 1) (o := .ins C s.heap.objs.size []) (t' := s.toks) (fun b u q => Heap.get?_push_of_some _ q) (Nat.le_of_eq (Heap.size_push _ _)) ?_
 have ne : s.heap.objs.size ≠ s.heap.objs.size + 1 := Nat.ne_of_lt (Nat.lt_succ_self _)
 refine ⟨by rw [upd_ne ne, upd_same], Nat.zero_le _, ne, e2, fun _ => none, (Heap.Ns1.of_empty e3).at fun o q => Heap.get?_push_of_some _ q, fun _ => True.intro, fun y hy => absurd rfl hy⟩
theorem attr_of {prog : Program} {w : World} {env : Env} {e : Expr} {f : Str} {pos : Pos} {s : Shared} {Q : Value → Shared → Prop} (hb : attributeBase e f env (eval e env) = eval e env)
  (h : wpAny (model prog w) A (eval e env) (fun o s₁ => wpAny (model prog w) A (getAttr o f true) Q E s₁) E s) : wpAny (model prog w) A (eval (.Attribute e f pos) env) Q E s :=
 Attribute_any_ h (by rw [arm_eval_Attribute, hb])
end
def tFld (K : W.Frag) (ta : TE) (f : Str) : TE := fun σ H Q => ta σ H fun x H1 => ∃ a C dx fs v, x = .ref a ∧ H1 a = some (.ins C dx fs) ∧ Cls K C ∧ NoAttr K C f ∧ fs.lookup f = some v ∧ Q v H1
def sFld (K : W.Frag) (ta tv : TE) (f : Str) : TS := fun D σ H => tv σ H fun y H1 => ta σ H1 fun x H2 => ∃ a C dx fs, x = .ref a ∧ H2 a = some (.ins C dx fs) ∧ Cls K C ∧ NoAttr K C f ∧ fs.length < 1000 ∧
 D.nx σ (upd H2 a (.ins C dx (putF f y fs)))
section
variable {X : Cx} {o e value : Expr} {f : Str} {pos pos' tpos : Pos} {ta tv : TE}
theorem pe_fld (he : PE X e ta) (hb : attributeBase e f X.env (eval e X.env) = eval e X.env) : PE X (.Attribute e f pos) (tFld X.K ta f) := by
 intro pins s σ H Q I h
 refine attr_of hb (thn (he pins s σ H _ I h) fun u s1 ⟨x, H1, I1, rx, a, C, dx, fs, v, ex, ea, c, n, l, q⟩ => ?_)
 subst ex
 obtain rfl : u = Value.ref a := rx
 exact getattr_ok I1 ea c n l fun u' s2 I2 ru => ⟨v, H1, I2, ru, q⟩
theorem ps_fld (ha : PE X o ta) (hv : PE X value tv) (hs : swapsWith value (some (.Attribute o f pos')) pos.line X.env = pure false) : PS X (.Assign [.Attribute o f pos'] value pos) (sFld X.K ta tv f) := by
 intro pins s σ H D I h
 refine plainObj_wpAny_Assign_Attribute (thn (hv pins s σ H _ I h) fun u s1 ⟨y, H1, I1, ry, q⟩ => thn (ha pins s1 σ H1 _ I1 q) fun ov s2 ⟨x, H2, I2, rx, a, C, dx, fs, ex, ea, c, n, l, q2⟩ => ?_) hs
 subst ex
 obtain rfl : ov = Value.ref a := rx
 exact setattr_ok I2 ea c n l ry fun s3 I3 => ⟨σ, _, I3, q2⟩
end
section
variable {X : Cx} {pins : List (Addr × Obj)} {σ : St} {H : Hp} {s : Shared} {A : Around} {E : Value → Shared → Prop} {Q : Value → Shared → Prop} {c : Value} {b : Bool}
inductive TyOf (K : W.Frag) (H : Hp) : V → Value → Prop where
 | non : TyOf K H .non (.type "NoneType")
 | bl (x : Bool) : TyOf K H (.bl x) (.type "bool")
 | int (i : Int) : TyOf K H (.int i) (.type "int")
 | str (x : Str) : TyOf K H (.str x) (.type "str")
 | flt (x : UInt64) : TyOf K H (.flt x) (.type "float")
 | lst {a : Addr} {xs : List V} (e : H a = some (.lst xs)) : TyOf K H (.ref a) (.type "list")
 | frz {a : Addr} {o : Obj} {xs : List V} (e : H a = some (.frz o (.lst xs))) : TyOf K H (.ref a) (.type "list")
 | tup {a : Addr} {xs : List V} (e : H a = some (.tup xs)) : TyOf K H (.ref a) (.type "tuple")
 | dK {a : Addr} {kvs : List (Key × V)} (e : H a = some (.dK kvs)) : TyOf K H (.ref a) (.type "dict")
 | dT {a : Addr} {kvs : List (List Key × V)} (e : H a = some (.dT kvs)) : TyOf K H (.ref a) (.type "dict")
 | ins {a C dx : Addr} {fs : List (Str × V)} (e : H a = some (.ins C dx fs)) (cl : Cls K C) (ha : W.findIn K (.ref C) "__class__" = some (some (.builtin "object.__class__")))
   (hn : W.specialIn K (.builtin "object.__class__") "__get__" = some (some (.builtin "getset_descriptor.__get__"))) (htk : W.takesIn K (.builtin "object.__class__") = some true)
   (hm : W.mroIn K C (.type "object") = some true) : TyOf K H (.ref a) (.ref C)
theorem isinst_ok {x : V} {u t : Value} (I : Inv X pins σ H s) (rx : RelV x u) (ty : TyOf X.K H x t) (e : W.kitOne X.K t c = some b) (h : ∀ tk, Q (.bool b) { s with toks := tk }) :
  wpAny (model X.prog X.w) A (call (.builtin "isinstance") [u, c]) Q E s := by
 cases ty with
 | non => cases (show u = Value.none from rx); exact W.kia_one W.kitx_none I.kIn True.intro e (fun z => nomatch z) h
 | bl y => cases (show u = Value.bool y from rx); exact W.kia_one W.kitx_bool I.kIn True.intro e (fun z => nomatch z) h
 | int i => obtain ⟨t, q⟩ := (show ∃ t, u = Value.int i t from rx); cases q; exact W.kia_one W.kitx_int I.kIn True.intro e (fun z => nomatch z) h
 | str y => obtain ⟨t, q⟩ := (show ∃ t, u = Value.str y t from rx); cases q; exact W.kia_one W.kitx_str I.kIn True.intro e (fun z => nomatch z) h
 | flt y => obtain ⟨t, q⟩ := (show ∃ t, u = Value.float y t from rx); cases q; exact W.kia_one W.kitx_float I.kIn True.intro e (fun z => nomatch z) h
 | @lst a xs ea =>
  cases (show u = Value.ref a from rx)
  obtain ⟨_, _, n, _, h1⟩ := (show ObjOk X.prog X.w H s.heap a (.lst xs) from I.hok a _ ea)
  exact W.kia_one W.kitx_list I.kIn ⟨_, h1, rfl⟩ e (fun z => nomatch z) h
 | @frz a ob xs ea =>
  cases (show u = Value.ref a from rx)
  obtain ⟨_, _, _, n, _, h1⟩ := (show ObjOk X.prog X.w H s.heap a (.frz ob (.lst xs)) from I.hok a _ ea)
  exact W.kia_one W.kitx_list I.kIn ⟨_, h1, rfl⟩ e (fun z => nomatch z) h
 | @tup a xs ea =>
  cases (show u = Value.ref a from rx)
  obtain ⟨_, _, _, p⟩ := (show ObjOk X.prog X.w H s.heap a (.tup xs) from I.hok a _ ea)
  obtain ⟨o, h1, h2, _⟩ := p
  exact W.kia_one W.kitx_tuple I.kIn ⟨o, h1, h2⟩ e (fun z => nomatch z) h
 | @dK a kvs ea =>
  cases (show u = Value.ref a from rx)
  obtain ⟨_, _, vs, _, p⟩ := (show ObjOk X.prog X.w H s.heap a (.dK kvs) from I.hok a _ ea)
  obtain ⟨o, es, ep, h1, h2, _⟩ := p
  exact W.kia_one W.kitx_dict I.kIn ⟨o, h1, h2.1⟩ e (fun z => nomatch z) h
 | @dT a kvs ea =>
  cases (show u = Value.ref a from rx)
  obtain ⟨_, _, xs, _, o, es, ep, h1, h2, _⟩ := (show ObjOk X.prog X.w H s.heap a (.dT kvs) from I.hok a _ ea)
  exact W.kia_one W.kitx_dict I.kIn ⟨o, h1, h2.1⟩ e (fun z => nomatch z) h
 | @ins a C dx fs ea cl ha hn htk hm =>
  cases (show u = Value.ref a from rx)
  obtain ⟨mA, O, _⟩ := ins_get I.hok ea
  obtain ⟨od, J, _⟩ := O.look
  exact W.kia_one (W.kitx_own (cl.get _) cl.hd ha hn htk hm) I.kIn J e (fun z => nomatch z) h
end
end L2
namespace L2
open PySem PySem.Spec PyProof.Rows
structure Room (k : Nat) (A : Around) : Prop where
 hd : A.handled = none
 dp : A.depth + 3 * k + 5 < recursionLimit
 un : A.units + 16 * k + 200 < cLine
theorem Room.mono {j k : Nat} {A : Around} (r : Room k A) (h : j ≤ k) : Room j A := ⟨r.hd, by have := r.dp; omega, by have := r.un; omega⟩
theorem Room.deeper {k : Nat} {A : Around} (r : Room (k + 1) A) (env : Env) : Room k (A.deeper env) :=
 ⟨r.hd, by have := r.dp; show A.depth + 1 + 3 * k + 5 < _; omega, by have := r.un; show A.units + 3 + 16 * k + 200 < _; omega⟩
theorem make_depth {A : Around} {C : Addr} {us : List Value} {kw : List (Str × Value)} : (A.under (.builtin "type.__call__" ⟨.ref C :: us, kw⟩)).depth = A.depth + 1 := by
 first | rfl | simp [Around.under, Code.weight, Code.isCreation, Code.isGuard, Code.isCaller, Code.frames, Code.isFrame, guardIds]
theorem make_units {A : Around} {C : Addr} {us : List Value} {kw : List (Str × Value)} : (A.under (.builtin "type.__call__" ⟨.ref C :: us, kw⟩)).units = A.units + 1 := by
 first | rfl | simp [Around.under, Code.cUnits, Code.frames, Code.isFrame]
theorem Room.make {k : Nat} {A : Around} (r : Room (k + 1) A) (C : Addr) (us : List Value) (kw : List (Str × Value)) : Room k (A.under (.builtin "type.__call__" ⟨.ref C :: us, kw⟩)) :=
 ⟨r.hd, by have := r.dp; rw [make_depth]; omega, by have := r.un; rw [make_units]; omega⟩
theorem Room.depth {k : Nat} {A : Around} (r : Room k A) : A.depth < recursionLimit := by have := r.dp; omega
theorem Room.units {k : Nat} {A : Around} (r : Room k A) : A.units + 64 < cLine := by have := r.un; omega
def tNil : TA := fun _ H Q => Q [] H
def tCons (ta : TE) (tr : TA) : TA := fun σ H Q => ta σ H fun x H1 => tr σ H1 fun xs H2 => Q (x :: xs) H2
section
variable {X : Cx} {e : Expr} {es : List Expr} {te : TE} {t : TA} {pos : Pos}
theorem pa_nil : PA X [] tNil := fun _ _ _ _ H Q I h => Calls.spliced_nil ⟨[], H, I, .nil, h⟩
theorem pa_cons (ha : PE X e te) (hr : PA X es t) (hs : starEach (e :: es) X.env = (false, eval e X.env) :: starEach es X.env := by rfl) : PA X (e :: es) (tCons te t) := by
 intro pos pins s σ H Q I h
 rw [hs]
 show wpAny _ _ (spliced ((false, eval e X.env) :: backTo pos (starEach es X.env))) _ _ s
 refine Calls.spliced_cons (thn (ha pins s σ H _ I h) fun u s1 ⟨x, H1, I1, r1, q1⟩ => ?_)
 exact thn (hr pos pins s1 σ H1 _ I1 q1) fun us s2 ⟨xs, H2, I2, r2, q2⟩ => ⟨x :: xs, H2, I2, .cons r1 r2, q2⟩
def tLst (t : TA) : TE := fun σ H Q => t σ H fun xs H1 => xs.length ≤ sizeLine ∧ ∀ p, H1 p = none → Q (.ref p) (upd H1 p (.lst xs))
theorem pe_lst (h : PA X es t) : PE X (.List es pos) (tLst t) := by
 intro pins s σ H Q I hq
 refine wpAny_List_spliced (thn (h pos pins s σ H _ I hq) fun us s1 ⟨xs, H1, I1, r, z, q⟩ => ⟨by rw [← r.length]; exact z, ?_⟩)
 have hf : H1 s1.heap.objs.size = none := I1.hok.fresh (Nat.le_refl _)
 refine ⟨.ref s1.heap.objs.size, upd H1 s1.heap.objs.size (.lst xs), I1.laid (t' := s1.toks) (fun b u e => Heap.get?_push_of_some _ e) (Nat.le_refl _) ?_, rfl, q _ hf⟩
 exact ⟨z, us, 0, r, Heap.get?_push_size _ rfl⟩
end
abbrev Sp := List V → Hp → VK → XK → Prop
abbrev CXT := List Env → Hp → Shared → XK → Value → Shared → Prop
structure Env0 (P : Program) (w : World) (K : W.Frag) (mg : Str → Option Value) (base : Heap) (A : Around) (outer : List Env) (s : Shared) (H : Hp) : Prop where
 frames : A.frames = some outer
 mod : Mod K mg base
 bs : ∀ b o, base.get? b = some o → s.heap.get? b = some o ∧ H b = none
 bsz : base.objs.size ≤ s.heap.objs.size
 funs : s.heap.FunFrames base outer
 frf : ∀ b ∈ frs outer, H b = none
 hok : HOk P w H s.heap
 bare : AllBare s.gens
def CE (outer : List Env) (P : Program) (w : World) (H : Hp) (s : Shared) (Q : VK) (u : Value) (s' : Shared) : Prop :=
 ∃ v H', s'.os = s.os ∧ AllBare s'.gens ∧ Un (frs outer) [] H H' s.heap s'.heap ∧ HOk P w H' s'.heap ∧ RelV v u ∧ Q v H'
def CR (CX : CXT) (outer : List Env) (P : Program) (w : World) (H : Hp) (s : Shared) (Q : VK) (E : XK) (r : Result) (s' : Shared) : Prop :=
 match r with
 | .ok (.ret u) => CE outer P w H s Q u s'
 | .ok _ => False
 | .error e => CX outer H s E e s'
structure FnOk (P : Program) (w : World) (K : W.Frag) (mg : Str → Option Value) (base : Heap) (CX : CXT) (k : Nat) (f : Addr) (fd : FuncData) (ps : List Str) (sp : Sp) : Prop where
 len : ∀ vs H Q E, sp vs H Q E → vs.length = ps.length
 run : ∀ (A : Around) (outer : List Env) (s : Shared) (H : Hp) (args : Args) (us : List Value) (vs : List V) (Q : VK) (E : XK), Room k A → Env0 P w K mg base A outer s H → BindsTo s fd args (ps.zip us) → Vals vs us → sp vs H Q E →
  codeAny (model P w) A (.call (.ref f) args) (CR CX outer P w H s Q E) s
theorem Env0.make {P : Program} {w : World} {K : W.Frag} {mg : Str → Option Value} {base : Heap} {A : Around} {outer : List Env} {s : Shared} {H : Hp} (e : Env0 P w K mg base A outer s H) (C : Addr) (us : List Value) (kw : List (Str × Value)) :
  Env0 P w K mg base (A.under (.builtin "type.__call__" ⟨.ref C :: us, kw⟩)) outer s H := ⟨by first | exact e.frames | (simpa [Around.under, Code.envs, Code.isFrame, pushEnvs] using e.frames), e.mod, e.bs, e.bsz, e.funs, e.frf, e.hok, e.bare⟩
section
variable {X : Cx} {pins : List (Addr × Obj)} {σ : St} {H : Hp} {s s' : Shared}
theorem Inv.env0 (I : Inv X pins σ H s) : Env0 X.prog X.w X.K X.mg X.base X.A X.stack s H :=
 ⟨I.ok.frames, I.ok.mod, I.bs, Nat.le_trans I.ok.bsz I.sz, I.stack, I.stkFree, I.hok, I.bare⟩
theorem Inv.after {Q : VK} {u : Value} (I : Inv X pins σ H s) (h : CE X.stack X.prog X.w H s Q u s') : EP X pins σ Q u s' := by
 obtain ⟨v, H', os, bare, un, hok, r, q⟩ := h
 obtain ⟨hh, g, d, t, os'⟩ := s'
 obtain rfl : os' = s.os := os
 exact ⟨v, H', I.call (h' := hh) (g' := g) (d' := d) (t' := t) (ch := []) un hok bare (fun b z => absurd z (by simp)), r, q⟩
end
def tCall (sp : Sp) (dvs : List V) (E : XK) (t : TA) : TE := fun σ H Q => t σ H fun vs H1 => sp (vs ++ dvs) H1 Q E
def tMake (C : Addr) (sp : Sp) (dvs : List V) (E : XK) (t : TA) : TE := fun σ H Q => t σ H fun vs H1 => ∀ x dx, H1 x = none → H1 dx = none → dx ≠ x →
 sp (.ref x :: (vs ++ dvs)) (upd (upd H1 dx (.own x)) x (.ins C dx [])) (fun v H2 => v = .non ∧ Q (.ref x) H2) E
def Binds (K : W.Frag) (fd : FuncData) (ps : List Str) (ds : List Value) : Prop :=
 ∀ (s : Shared) (us : List Value), K.In s.heap → (us ++ ds).length = ps.length → BindsTo s fd ⟨us, []⟩ (ps.zip (us ++ ds))
theorem Binds.all {K : W.Frag} {fd : FuncData} {ps : List Str} (h : ∀ us : List Value, us.length = ps.length → bindArgs fd ⟨us, []⟩ = pure (ps.zip us)) : Binds K fd ps [] := fun s us _ hl => by
 rw [List.append_nil] at hl ⊢
 exact .of_eq (h us hl)
def Passes (CX : CXT) (X : Cx) (E : XK) : Prop := ∀ (pins : List (Addr × Obj)) (σ : St) (H : Hp) (s : Shared) (e : Value) (s' : Shared), Inv X pins σ H s → CX X.stack H s E e s' → X.xe e s'
section
variable {X : Cx} {CX : CXT} {k : Nat} {f C : Addr} {fd : FuncData} {ps : List Str} {sp : Sp} {dvs : List V} {ds : List Value} {E : XK} {x m : Str} {p pos apos : Pos} {e o : Expr} {es : List Expr} {ta : TE} {t : TA}
theorem run_fn {pins : List (Addr × Obj)} {σ : St} {H : Hp} {s : Shared} {Q : VK} {us : List Value} {vs : List V} (F : FnOk X.prog X.w X.K X.mg X.base CX k f fd ps sp) (hr : Room k X.A) (hb : Binds X.K fd ps ds) (hd : Vals dvs ds) (hx : Passes CX X E)
  (I : Inv X pins σ H s) (r : Vals vs us) (h : sp (vs ++ dvs) H Q E) : wpAny (model X.prog X.w) X.A (call (.ref f) us) (EP X pins σ Q) X.xe s := by
 have r2 : Vals (vs ++ dvs) (us ++ ds) := r.append hd
 have hl : (us ++ ds).length = ps.length := by rw [← r2.length]; exact F.len _ _ _ _ h
 refine wpAny_call (codeAny_mono (F.run X.A X.stack s H ⟨us, []⟩ (us ++ ds) (vs ++ dvs) Q E hr I.env0 (hb s us I.kIn hl) r2 h) fun r s' hq => ?_)
 cases r with
 | error e => exact hx pins σ H s e s' I hq
 | ok fl =>
  cases fl with
  | ret u => exact I.after hq
  | next => exact False.elim hq
  | brk => exact False.elim hq
  | cont => exact False.elim hq
theorem pe_call (F : FnOk X.prog X.w X.K X.mg X.base CX k f fd ps sp) (hr : Room k X.A) (hg : Gl X x) (hm : X.mg x = some (.ref f)) (hk : W.keepIn X.K (.ref f) = true) (hb : Binds X.K fd ps ds) (hd : Vals dvs ds) (hx : Passes CX X E)
  (ha : PA X (e :: es) t) (hdb : (x == ("__debug__" : Str)) = false := by decide) (he : starEach (e :: es) X.env = (false, eval e X.env) :: starEach es X.env := by rfl) (hpl : (backTo pos (starEach es X.env)).any (·.1) = false := by rfl) :
  PE X (.Call (.Name x p) (e :: es) [] pos) (tCall sp dvs E t) := by
 intro pins s σ H Q I h
 refine wpAny_Call_Name_kw (ld_glob I hg hm ?_ hdb)
 refine W.callWith_K (h₀ := X.base) I.ok.mod.kin hk (thn (ha pos pins s σ H _ I h) fun us s1 ⟨vs, H1, I1, r, q⟩ => ⟨I1.kIn, ?_⟩) he hpl
 exact run_fn F hr hb hd hx I1 r q
structure Mk (K : W.Frag) (C f : Addr) : Prop where
 makes : W.makesIn K C = true
 init : W.findIn K (.ref C) "__init__" = some (some (.ref f))
 fn : W.isFn K (.ref f) = true
 kp : W.keepIn K (.ref C) = true
theorem run_make {pins : List (Addr × Obj)} {σ : St} {H : Hp} {s : Shared} {Q : VK} {us : List Value} {vs : List V} (M : Mk X.K C f) (F : FnOk X.prog X.w X.K X.mg X.base CX k f fd ps sp) (hr : Room (k + 1) X.A) (hb : Binds X.K fd ps ds) (hd : Vals dvs ds)
  (hx : Passes CX X E) (I : Inv X pins σ H s) (r : Vals vs us)
  (h : ∀ x dx, H x = none → H dx = none → dx ≠ x → sp (.ref x :: (vs ++ dvs)) (upd (upd H dx (.own x)) x (.ins C dx [])) (fun v H2 => v = .non ∧ Q (.ref x) H2) E) :
  wpAny (model X.prog X.w) X.A (call (.ref C) us) (EP X pins σ Q) X.xe s := by
 have hq := h (s.heap.objs.size + 1) s.heap.objs.size (I.hok.fresh (Nat.le_succ _)) (I.hok.fresh (Nat.le_refl _)) (Nat.ne_of_lt (Nat.lt_succ_self _))
 have I2 := Inv.made (C := C) I
 have r2 : Vals (V.ref (s.heap.objs.size + 1) :: (vs ++ dvs)) (Value.ref (s.heap.objs.size + 1) :: (us ++ ds)) := .cons rfl (r.append hd)
 have hl : (Value.ref (s.heap.objs.size + 1) :: us ++ ds).length = ps.length := by
  have e := r2.length
  rw [F.len _ _ _ _ hq] at e
  exact e.symm
 refine wpAny_call (make_map (f := f) I.kIn M.makes M.init (beq_iff_eq.mp M.fn) (codeAny_mono (F.run _ X.stack _ _ ⟨Value.ref (s.heap.objs.size + 1) :: us, []⟩ (Value.ref (s.heap.objs.size + 1) :: (us ++ ds)) _ _ E (hr.make C us [])
  (I2.env0.make C us []) (hb _ (Value.ref (s.heap.objs.size + 1) :: us) I2.kIn hl) r2 hq) fun r s' hq' => ?_))
 cases r with
 | error e => exact hx pins σ _ _ e s' I2 hq'
 | ok fl =>
  cases fl with
  | ret u =>
   obtain ⟨v, H', I3, rv, ev, q3⟩ := I2.after hq'
   subst ev
   exact ⟨rv, ⟨V.ref (s.heap.objs.size + 1), H', I3, rfl, q3⟩⟩
  | next => exact False.elim hq'
  | brk => exact False.elim hq'
  | cont => exact False.elim hq'
theorem pe_make (M : Mk X.K C f) (F : FnOk X.prog X.w X.K X.mg X.base CX k f fd ps sp) (hr : Room (k + 1) X.A) (hg : Gl X x) (hm : X.mg x = some (.ref C)) (hb : Binds X.K fd ps ds) (hd : Vals dvs ds) (hx : Passes CX X E)
  (ha : PA X (e :: es) t) (hdb : (x == ("__debug__" : Str)) = false := by decide) (he : starEach (e :: es) X.env = (false, eval e X.env) :: starEach es X.env := by rfl) (hpl : (backTo pos (starEach es X.env)).any (·.1) = false := by rfl) :
  PE X (.Call (.Name x p) (e :: es) [] pos) (tMake C sp dvs E t) := by
 intro pins s σ H Q I h
 refine wpAny_Call_Name_kw (ld_glob I hg hm ?_ hdb)
 refine W.callWith_K (h₀ := X.base) I.ok.mod.kin M.kp (thn (ha pos pins s σ H _ I h) fun us s1 ⟨vs, H1, I1, r, q⟩ => ⟨I1.kIn, ?_⟩) he hpl
 exact run_make M F hr hb hd hx I1 r q
end
section
variable {X : Cx} {CX : CXT} {k : Nat} {f C : Addr} {fd : FuncData} {ps ks : List Str} {sp : Sp} {E : XK} {x m : Str} {p pos apos kpos : Pos} {e o : Expr} {es : List Expr} {kws : List Keyword} {te ta : TE} {t tk : TA} {nm : Option Str}
structure KBinds (K : W.Frag) (fd : FuncData) (ps ks : List Str) (g : List Value → List Value → List Value) (gV : List V → List V → List V) : Prop where
 to : ∀ (s : Shared) (us ws : List Value), K.In s.heap → (g us ws).length = ps.length → BindsTo s fd ⟨us, ks.zip ws⟩ (ps.zip (g us ws))
 rel : ∀ {vs : List V} {us : List Value} {zs : List V} {ws : List Value}, Vals vs us → Vals zs ws → Vals (gV vs zs) (g us ws)
variable {g : List Value → List Value → List Value} {gV : List V → List V → List V}
end
structure FnScope (N P : List Str) (sc : Scope) : Prop where
 kind : sc.kind = .function
 co : sc.isCoroutine = false
 gen : sc.isGenerator = false
 nd : N.Nodup
 pre : N.take P.length = P
 par : ∀ x ∈ P, sc.names.lookup x = some .local ∨ sc.names.lookup x = some .cell
 nofree : ∀ y ∈ sc.names, y.2 ≠ .free
theorem bindL_out {kindOf : Str → Option NameKind} {x : Str} : ∀ {binds : List (Str × Value)} {m : Str → Option Value}, (∀ v, (x, v) ∉ binds) → bindL kindOf binds m x = m x
 | [], _, _ => rfl
 | (n, v) :: r, m, h => by
  unfold bindL
  rw [bindL_out fun w hw => h w (List.mem_cons_of_mem _ hw)]
  split
  ·have : x ≠ n := by rintro rfl; exact h v List.mem_cons_self
   simp [this]
  ·rfl
theorem bindC_out {kindOf : Str → Option NameKind} {x : Str} : ∀ {binds : List (Str × Value)} {m : Str → Option Value}, (∀ v, (x, v) ∉ binds) → bindC kindOf binds m x = m x
 | [], _, _ => rfl
 | (n, v) :: r, m, h => by
  unfold bindC
  rw [bindC_out fun w hw => h w (List.mem_cons_of_mem _ hw)]
  split
  ·rfl
  ·have : x ≠ n := by rintro rfl; exact h v List.mem_cons_self
   simp [this]
theorem bindL_get {kindOf : Str → Option NameKind} {x : Str} {v : Value} : ∀ {P : List Str} {vs : List Value} {i : Nat} {m : Str → Option Value}, P.Nodup → P[i]? = some x → vs[i]? = some v → kindOf x = some .local →
  bindL kindOf (P.zip vs) m x = some v
 | [], _, _, _, _, h, _, _ => by simp at h
 | _ :: _, [], _, _, _, _, h, _ => by simp at h
 | p :: P, w :: vs, 0, m, nd, h1, h2, hk => by
  simp at h1 h2; subst h1; subst h2
  show bindL kindOf ((p, w) :: P.zip vs) m p = _
  unfold bindL
  rw [bindL_out fun v hv => (List.nodup_cons.mp nd).1 (List.of_mem_zip hv).1, if_pos hk]
  simp
 | p :: P, w :: vs, i + 1, m, nd, h1, h2, hk => by
  show bindL kindOf ((p, w) :: P.zip vs) m x = _
  unfold bindL
  exact bindL_get (i := i) (List.nodup_cons.mp nd).2 (by simpa using h1) (by simpa using h2) hk
theorem bindC_get {kindOf : Str → Option NameKind} {x : Str} {v : Value} : ∀ {P : List Str} {vs : List Value} {i : Nat} {m : Str → Option Value}, P.Nodup → P[i]? = some x → vs[i]? = some v → kindOf x ≠ some .local →
  bindC kindOf (P.zip vs) m x = some v
 | [], _, _, _, _, h, _, _ => by simp at h
 | _ :: _, [], _, _, _, _, h, _ => by simp at h
 | p :: P, w :: vs, 0, m, nd, h1, h2, hk => by
  simp at h1 h2; subst h1; subst h2
  show bindC kindOf ((p, w) :: P.zip vs) m p = _
  unfold bindC
  rw [bindC_out fun v hv => (List.nodup_cons.mp nd).1 (List.of_mem_zip hv).1, if_neg hk]
  simp
 | p :: P, w :: vs, i + 1, m, nd, h1, h2, hk => by
  show bindC kindOf ((p, w) :: P.zip vs) m x = _
  unfold bindC
  exact bindC_get (i := i) (List.nodup_cons.mp nd).2 (by simpa using h1) (by simpa using h2) hk
def start (N : List Str) (vs : List V) : St := vs.map some ++ List.replicate (N.length - vs.length) none
def cxOf (CX : CXT) (P : Program) (w : World) (K : W.Frag) (mg : Str → Option Value) (base : Heap) (N : List Str) (qual : Str) (scope : Scope) (f : Addr) (cd : Value) (A : Around) (outer : List Env) (s : Shared) (H : Hp) (E : XK) : Cx where
 prog := P
 w := w
 K := K
 mg := mg
 base := base
 A := A.deeper (envOfC qual scope s.heap.objs.size f cd)
 N := N
 s₀ := s
 H₀ := H
 env := envOfC qual scope s.heap.objs.size f cd
 outer := outer
 stack := envOfC qual scope s.heap.objs.size f cd :: outer
 ex := []
 calm := true
 fn := fun _ => true
 pn := []
 xe := fun e s' => wpAny (model P w) (A.deeper (envOfC qual scope s.heap.objs.size f cd)) (leaving (envOfC qual scope s.heap.objs.size f cd) e) (fun _ s'' => CX outer H s E e s'') (fun e' s'' => CX outer H s E e' s'') s'
theorem cell_has {sc : Scope} {n : Nat} {x : Str} (h : sc.names.lookup x = some .cell) : ∃ c, (cellsFrom n sc.names []).lookup x = some c := by
 have q := W.cellsFrom_some sc.names n [] (.inl h)
 exact Option.isSome_iff_exists.mp q
theorem inv_start {CX : CXT} {P : Program} {w : World} {K : W.Frag} {mg : Str → Option Value} {base : Heap} {N ps : List Str} {qual : Str} {scope : Scope} {f : Addr} {cd : Value} {A : Around} {outer : List Env} {s s1 : Shared} {H : Hp} {E : XK} {us : List Value} {vs : List V}
  (S : FnScope N ps scope) (hd : A.handled = none) (e0 : Env0 P w K mg base A outer s H) (hl : vs.length = ps.length) (r : Vals vs us)
  (x : InCallC s s.heap.objs.size (bindL (envOfC qual scope s.heap.objs.size f cd).kindOf (ps.zip us) fun _ => none) (cellsFrom (s.heap.objs.size + 1) scope.names []) (bindC (envOfC qual scope s.heap.objs.size f cd).kindOf (ps.zip us) fun _ => none) s1) :
  Inv (cxOf CX P w K mg base N qual scope f cd A outer s H E) [] (start N vs) H s1 := by
 have hpl : ps.length ≤ N.length := by have := congrArg List.length S.pre; rw [List.length_take] at this; omega
 obtain ⟨h1, tk, rfl, hk⟩ := x.done
 have noA : ∀ b : Addr, b ∉ (cxOf CX P w K mg base N qual scope f cd A outer s H E).ex := fun b z => absurd (show b ∈ ([] : List Addr) from z) (by simp)
 refine ⟨⟨e0.mod, S.kind, rfl, rfl, Nat.le_refl _, fun y z c h1 h2 => ?_, fun y hy => ?_, fun y c _ h => ?_, fun _ => hd, Around.frames_deeper e0.frames, .inr ⟨rfl, rfl⟩, fun b z => absurd z (noA b), e0.bs, e0.bsz, fun b _ _ => noA b, fun b z => absurd z (noA b), e0.funs, e0.frf⟩,
  rfl, e0.bare, Un.kept hk, ⟨_, x.toInCall.ns, fun i y v h1 h2 h3 => ?_⟩, fun y c h => ⟨_, x.cell y c h⟩, e0.hok.fresh (Nat.le_refl _), fun y c h => ?_, fun p hp => absurd (show p ∈ ([] : List (Addr × Obj)) from hp) (by simp), e0.hok.kept hk, ?_⟩
 ·exact name_of_addr x.apart (PySem.mem_of_lookup h1) (PySem.mem_of_lookup h2)
 ·have hy : scope.names.lookup y = some .cell ∨ scope.names.lookup y = some .free := hy
  rcases hy with hy | hy
  ·exact cell_has hy
  ·exact absurd rfl (S.nofree _ (PySem.mem_of_lookup hy))
 ·exact Nat.le_of_lt (x.above y c (PySem.mem_of_lookup h))
 ·have hi : i < vs.length := by
   unfold start at h2
   by_cases hi : i < vs.length
   ·exact hi
   ·rw [List.getElem?_append_right (by simpa using hi)] at h2
    rw [List.getElem?_replicate] at h2
    split at h2 <;> cases h2
  have ha : vs[i]? = some v := by
   unfold start at h2
   rw [List.getElem?_append_left (by simpa using hi), List.getElem?_map] at h2
   cases e : vs[i]? with
   | none => rw [e] at h2; cases h2
   | some a => rw [e] at h2; cases h2; rfl
  obtain ⟨u, hu, rv⟩ := r.get ha
  have hp : ps[i]? = some y := by
   rw [← S.pre, List.getElem?_take_of_lt (by omega)]; exact h1
  have ndP : ps.Nodup := by rw [← S.pre]; exact S.nd.sublist (List.take_sublist _ _)
  refine ⟨u, rv, ?_⟩
  rcases S.par y (List.mem_of_getElem? hp) with k | k
  ·exact .inl ⟨k, bindL_get ndP hp hu k⟩
  ·obtain ⟨c, e⟩ := cell_has (n := s.heap.objs.size + 1) k
   refine .inr ⟨.inl k, c, e, ?_⟩
   have q := x.cell y c e
   rw [bindC_get ndP hp hu (by show scope.names.lookup y ≠ _; rw [k]; decide)] at q
   exact q
 ·exact e0.hok.fresh (Nat.le_of_lt (x.above y c (PySem.mem_of_lookup h)))
 ·unfold start
  show _ = N.length
  rw [List.length_append, List.length_map, List.length_replicate]
  omega
theorem fn_of {CX : CXT} {P : Program} {w : World} {K : W.Frag} {mg : Str → Option Value} {base : Heap} {k : Nat} {f : Addr} {name qual : Str} {params : Arguments} {body : List Stmt} {scope : Scope} {dV kV doc pm cdv ct oc : Value} {an od : Option Addr}
  {osl : Array (Option Value)} {N ps : List Str} {sp : Sp} (lk : K.lookup f = some ⟨oc, od, .func (W.fnOf name qual params body scope dV kV doc pm an cdv ct), osl⟩) (hcd : W.codeIn K cdv qual = true) (S : FnScope N ps scope)
  (len : ∀ vs H Q E, sp vs H Q E → vs.length = ps.length)
  (hbody : ∀ (A : Around) (outer : List Env) (s : Shared) (H : Hp) (vs : List V) (Q : VK) (E : XK), Room k (A.deeper (envOfC qual scope s.heap.objs.size f cdv)) → sp vs H Q E →
   ∃ t, PSs (cxOf CX P w K mg base N qual scope f cdv A outer s H E) body t ∧ t { nx := fun _ H' => Q .non H', rt := Q } (start N vs) H) :
  FnOk P w K mg base CX (k + 1) f (W.fnOf name qual params body scope dV kV doc pm an cdv ct) ps sp := by
 refine ⟨len, fun A outer s H args us vs Q E hr e0 hb r hsp => ?_⟩
 have hl := len _ _ _ _ hsp
 have KX : K.In s.heap := e0.mod.kin.keeps fun b o e => (e0.bs b o e).1
 have lim : s.heap.NoLimit := e0.mod.nolimit.keeps fun b o e => (e0.bs b o e).1
 have hkind : ∀ y ∈ ps.zip us, scope.names.lookup y.1 = some .local ∨ (scope.names.lookup y.1 = some .cell ∧ ((cellsFrom (s.heap.objs.size + 1) scope.names []).lookup y.1).isSome = true) := fun ⟨n, v⟩ hy => by
  rcases S.par n (List.of_mem_zip hy).1 with q | q
  ·exact .inl q
  ·exact .inr ⟨q, W.cellsFrom_some _ _ _ (.inl q)⟩
 refine codeAny_call_function hr.depth (KX _ _ lk) rfl S.co S.gen rfl (W.codeRec_of KX hcd) (hb _ _ _ _ ?_)
 refine wpAny_newFunctionEnv_cells S.kind hkind fun env he s1 x => ?_
 subst he
 refine ⟨lim.keeps x.toInCall.keep, codeAny_func ?_⟩
 obtain ⟨t, ht, hq⟩ := hbody A outer s H vs Q E (hr.deeper _) hsp
 have I : Inv (cxOf CX P w K mg base N qual scope f cdv A outer s H E) [] (start N vs) H s1 := inv_start S hr.hd e0 hl r x
 refine wpAny_mono (ht [] s1 (start N vs) H _ I hq) (fun fl s' hs => ?_) fun e s' hs => hs
 have fin : ∀ {σ' : St} {H' : Hp} {v : V} {u : Value}, Inv (cxOf CX P w K mg base N qual scope f cdv A outer s H E) [] σ' H' s' → RelV v u → Q v H' → CE outer P w H s Q u s' :=
  fun {σ' H' v u} J rv q => ⟨v, H', J.os, J.bare, J.base, J.hok, rv, q⟩
 cases fl with
 | ret u =>
  obtain ⟨v, σ', H', J, rv, q⟩ := hs
  exact fin J rv q
 | next =>
  obtain ⟨σ', H', J, q⟩ := hs
  exact fin (v := V.non) (u := Value.none) J rfl q
 | brk =>
  obtain ⟨_, _, _, q⟩ := hs
  exact False.elim q
 | cont =>
  obtain ⟨_, _, _, q⟩ := hs
  exact False.elim q
end L2
namespace L2
open PySem PySem.Spec PyProof.Rows
section
variable {X : Cx} {x : Str} {p pos : Pos} {e : Expr} {es : List Expr} {t : TA} {id T : String} {r : List V → Hp → VK → Prop}
def tCB (r : List V → Hp → VK → Prop) (t : TA) : TE := fun σ H Q => t σ H fun vs H1 => r vs H1 Q
theorem pe_callB (hc : CallR X (.builtin id) r) (hg : Gl X x) (hm : X.mg x = none) (hv : bootBuiltins x = some (.builtin id)) (ha : PA X (e :: es) t) (hn : x ≠ "__name__" := by decide) (hdb : (x == ("__debug__" : Str)) = false := by decide)
  (he : starEach (e :: es) X.env = (false, eval e X.env) :: starEach es X.env := by rfl) (hpl : (backTo pos (starEach es X.env)).any (·.1) = false := by rfl) : PE X (.Call (.Name x p) (e :: es) [] pos) (tCB r t) := by
 intro pins s σ H Q I h
 refine wpAny_Call_Name_kw (ld_blt I hg hm hv ?_ hn hdb)
 exact PyProof.Rows.callWith_builtin1 (thn (ha pos pins s σ H _ I h) fun us s1 ⟨vs, H1, I1, r1, q1⟩ => hc pins s1 σ H1 vs us Q I1 r1 q1) he hpl
theorem pe_callTy (hc : CallR X (.type T) r) (hg : Gl X x) (hm : X.mg x = none) (hv : bootBuiltins x = some (.type T)) (ha : PA X (e :: es) t) (hn : x ≠ "__name__" := by decide) (hdb : (x == ("__debug__" : Str)) = false := by decide)
  (he : starEach (e :: es) X.env = (false, eval e X.env) :: starEach es X.env := by rfl) (hpl : (backTo pos (starEach es X.env)).any (·.1) = false := by rfl) : PE X (.Call (.Name x p) (e :: es) [] pos) (tCB r t) := by
 intro pins s σ H Q I h
 refine wpAny_Call_Name_kw (ld_blt I hg hm hv ?_ hn hdb)
 exact PyProof.Rows.callWith_type1 (thn (ha pos pins s σ H _ I h) fun us s1 ⟨vs, H1, I1, r1, q1⟩ => hc pins s1 σ H1 vs us Q I1 r1 q1) he hpl
end
end L2
namespace HT
open PySem PyProof.Rows
section
open PySem.SeqAt
open PySem.AutoSeq1 (wpAny_loadPart')
open PySem.MeetsSeq PySem.MeetsSeq2 PySem.MeetsSeq3
end
section
variable {prog : Program} {w : World} {A : Around} {E : Value → Shared → Prop} {s : Shared}
def sIx (n d : Nat) : Option Int → Nat
 | none => d
 | some v => if v < 0 then (v + (n : Int)).toNat else min v.toNat n
theorem sIx_nat (n d k : Nat) : sIx n d (some (k : Int)) = min k n := by
 show (if (k : Int) < 0 then ((k : Int) + (n : Int)).toNat else min (k : Int).toNat n) = min k n
 rw [if_neg (by omega), Int.toNat_natCast]
theorem sIx_le (n d : Nat) (hd : d ≤ n) (o : Option Int) : sIx n d o ≤ n := by
 cases o with
 | none => exact hd
 | some v =>
  show (if v < 0 then (v + (n : Int)).toNat else min v.toNat n) ≤ n
  by_cases hv : v < 0
  ·rw [if_pos hv]; omega
  ·rw [if_neg hv]; exact Nat.min_le_right _ _
theorem clip_eq (v : Int) (n d : Nat) : (if v < 0 then max (v + (n : Int)) 0 else min v (n : Int)) = ((sIx n d (some v) : Nat) : Int) := by
 show (if v < 0 then max (v + (n : Int)) 0 else min v (n : Int)) = (((if v < 0 then (v + (n : Int)).toNat else min v.toNat n) : Nat) : Int)
 by_cases hv : v < 0
 ·simp only [if_pos hv]; omega
 ·simp only [if_neg hv]; omega
theorem adjust_gen (lo hi : Option Int) (n : Nat) : Builtin.Slice.sliceAdjust lo hi 1 (n : Int) = (((sIx n 0 lo : Nat) : Int), ((sIx n n hi : Nat) : Int)) := by
 have h1 : ¬ ((1 : Int) < 0) := by omega
 unfold Builtin.Slice.sliceAdjust
 simp only [h1, if_false]
 refine Prod.ext ?_ ?_
 ·cases lo with
  | none => rfl
  | some v => exact clip_eq v n 0
 ·cases hi with
  | none => rfl
  | some v => exact clip_eq v n n
theorem places_gen (i j : Nat) : Builtin.Slice.slicePlaces (i : Int) (j : Int) 1 = j - i := by
 unfold Builtin.Slice.slicePlaces
 have h1 : (1 : Int) > 0 := by omega
 simp only [h1, if_true, Int.ediv_one]
 split <;> omega
theorem slicePart_ {v : Value} {o : Option Int} {Q : Option Int → Shared → Prop} (p : IsPart v o) (h : Q o s) : wpAny (model prog w) A (Builtin.Slice.slicePartIndex v) Q E s := by
 cases p with
 | none => exact slicePart_none h
 | int i t => exact slicePart_int h
theorem sliceApplied_gen {sl : Addr} {vl vu : Value} {lo hi : Option Int} {n : Nat} {Q : Int × Int × Nat → Shared → Prop} (hs : s.heap.IsSliceOf sl vl vu .none) (pl : IsPart vl lo) (pu : IsPart vu hi)
  (h : Q (((sIx n 0 lo : Nat) : Int), 1, sIx n n hi - sIx n 0 lo) s) : wpAny (model prog w) A (Builtin.Slice.sliceApplied (.ref sl) (pure (n : Int))) Q E s := by
 obtain ⟨os, hos, hcs, hds⟩ := id hs
 unfold Builtin.Slice.sliceApplied Builtin.Slice.sliceFields
 refine wpAny_bind (wpAny_bind (wpAny_field hos hds (x := vl) rfl (wpAny_bind (wpAny_field hos hds (x := vu) rfl (wpAny_bind (wpAny_field hos hds (x := .none) rfl (wpAny_pure ?_)))))))
 refine wpAny_bind (slicePart_none ?_)
 show wpAny _ _ (if ((1 : Int) == 0) = true then _ else _) _ _ s
 rw [if_neg (by decide)]
 refine wpAny_bind (slicePart_ pl (wpAny_bind (slicePart_ pu (wpAny_bind (wpAny_pure ?_)))))
 show wpAny _ _ (match Builtin.Slice.sliceAdjust lo hi 1 (n : Int) with | (lo, hi) => pure (lo, (1 : Int), Builtin.Slice.slicePlaces lo hi 1)) _ _ s
 rw [adjust_gen lo hi n]
 show wpAny _ _ (pure (((sIx n 0 lo : Nat) : Int), (1 : Int), Builtin.Slice.slicePlaces ((sIx n 0 lo : Nat) : Int) ((sIx n n hi : Nat) : Int) 1)) _ _ s
 rw [places_gen]
 exact wpAny_pure h
theorem pick_gen (xs : Array Value) (i k : Nat) : ((List.range k).filterMap fun (m : Nat) => xs[((i : Int) + (m : Int) * 1).toNat]?).toArray = ((xs.toList.drop i).take k).toArray := by
 have e : (fun (m : Nat) => xs[((i : Int) + (m : Int) * 1).toNat]?) = fun m => xs[i + m]? := by
  funext m
  have : ((i : Int) + (m : Int) * 1).toNat = i + m := by omega
  rw [this]
 rw [e]
 have := pick_run xs i k
 rw [List.filterMap_map] at this
 have e2 : ((fun x => xs[x]?) ∘ fun x => i + x) = fun m => xs[i + m]? := rfl
 rw [e2] at this
 rw [this]
theorem getItem_tuple_cut {t sl : Addr} {items : Array Value} {vl vu : Value} {lo hi : Option Int} {Q : Value → Shared → Prop} (ht : IsTup s.heap t items) (hs : s.heap.IsSliceOf sl vl vu .none) (pl : IsPart vl lo) (pu : IsPart vu hi)
  (hw : ¬ (sIx items.size 0 lo = 0 ∧ sIx items.size items.size hi = items.size))
  (h : Q (.ref s.heap.objs.size) { s with heap := s.heap.push { cls := .type "tuple", data := .seq ((items.toList.drop (sIx items.size 0 lo)).take (sIx items.size items.size hi - sIx items.size 0 lo)).toArray } })
  (hsz : items.size ≤ sizeLine) : wpAny (model prog w) A (getItem (.ref t) (.ref sl)) Q E s := by
 have htake : sizeOk (.seq ((items.toList.drop (sIx items.size 0 lo)).take (sIx items.size items.size hi - sIx items.size 0 lo)).toArray) := by
  show ((items.toList.drop (sIx items.size 0 lo)).take (sIx items.size items.size hi - sIx items.size 0 lo)).toArray.size ≤ sizeLine
  rw [List.size_toArray, List.length_take, List.length_drop, Array.length_toList]
  omega
 have hj : sIx items.size items.size hi ≤ items.size := sIx_le _ _ (Nat.le_refl _) hi
 obtain ⟨os, hos, hcs, hds⟩ := id hs
 have hTs : s.TypeIs (.ref sl) "slice" := ⟨os, hos, hcs⟩
 unfold getItem
 try with_reducible refine wpAny_holding ?_
 first | refine wpAny_bind (wpAny_pure ?_) | skip
 refine wpAny_bind (wpAny_sequenceKey ht.typeIs (by decide) ?_)
 refine wpAny_bind (wpAny_callSpecial?_slot (name := Str.ofString "__getitem__") ht.typeIs PyProof.Rows.slot_tuple_getitem
  (wpAny_call_entry PyProof.Rows.slot_tuple_getitem ht.typeIs entry_tuple_getitem ?_ (args_tuple_getitem _ _)))
 show wpAny _ _ (Builtin.Tuple.tupleItemsOf (.ref t) >>= _) _ _ s
 refine wpAny_bind (tupleItemsOf_ ht ?_)
 refine wpAny_bind (wpAny_typeOf hTs ?_)
 rw [if_pos (by decide)]
 refine wpAny_bind (sliceApplied_gen hs pl pu ?_)
 have hno : ¬ ((((sIx items.size 0 lo : Nat) : Int) == 0 && (1 : Int) == 1 && (sIx items.size items.size hi - sIx items.size 0 lo) == items.size) = true) := by
  intro q
  rw [Bool.and_eq_true, Bool.and_eq_true] at q
  have q1 : ((sIx items.size 0 lo : Nat) : Int) = 0 := eq_of_beq q.1.1
  have q2 : sIx items.size items.size hi - sIx items.size 0 lo = items.size := eq_of_beq q.2
  exact hw ⟨by omega, by omega⟩
 show wpAny _ _ (if (((sIx items.size 0 lo : Nat) : Int) == 0 && (1 : Int) == 1 && (sIx items.size items.size hi - sIx items.size 0 lo) == items.size) = true then _ else _) _ _ s
 rw [if_neg hno, pick_gen]
 first
  | exact wpAny_bind (m := Builtin.Tuple.tupleExact _) (wpAny_newObj_type (wpAny_pure ⟨_, rfl, wpAny_pure h⟩) htake)
  | exact wpAny_bind (m := Builtin.Tuple.tupleExact _) (wpAny_newObj_type (wpAny_bind (wpAny_pure (wpAny_pure ⟨_, rfl, wpAny_pure h⟩))) htake)
  | exact wpAny_bind (wpAny_bind (m := Builtin.Tuple.tupleExact _) (wpAny_newObj_type (wpAny_pure (wpAny_pure ⟨_, rfl, wpAny_pure h⟩)) htake))
  | exact wpAny_bind (wpAny_bind (m := Builtin.Tuple.tupleExact _) (wpAny_newObj_type (wpAny_pure ⟨_, rfl, wpAny_pure h⟩) htake))
end
end HT
namespace L2
open PySem PySem.Spec PyProof.Rows
abbrev TO := St → Hp → (Option Int → Hp → Prop) → Prop
def PO (X : Cx) (e : Option Expr) (t : TO) : Prop :=
 ∀ (pins : List (Addr × Obj)) (s : Shared) (σ : St) (H : Hp) (Q : Option Int → Hp → Prop), Inv X pins σ H s → t σ H Q →
  wpAny (model X.prog X.w) X.A (evalPart e X.env) (fun u s' => ∃ o H', Inv X pins σ H' s' ∧ IsPart u o ∧ Q o H') X.xe s
def tNoPart : TO := fun _ H Q => Q none H
def tPart (t : TE) : TO := fun σ H Q => t σ H fun x H1 => ∃ i, x = .int i ∧ Q (some i) H1
section
variable {X : Cx} {e : Expr} {te : TE} {lo hi : Option Expr} {tl th : TO} {pos p2 : Pos}
theorem po_none : PO X none tNoPart := by
 intro pins s σ H Q I h
 rw [evalPart_none]
 exact wpAny_pure ⟨none, H, I, .none, h⟩
theorem po_some (h : PE X e te) : PO X (some e) (tPart te) := by
 intro pins s σ H Q I hw
 rw [evalPart_some]
 refine thn (h pins s σ H _ I hw) fun u s1 ⟨x, H1, I1, r1, q1⟩ => ?_
 obtain ⟨i, rfl, q⟩ := q1
 obtain ⟨t, rfl⟩ := r1
 exact ⟨some i, H1, I1, .int i t, q⟩
def SlR (X : Cx) (r : V → Option Int → Option Int → Hp → VK → Prop) : Prop :=
 ∀ (pins : List (Addr × Obj)) (s : Shared) (σ : St) (H : Hp) (x : V) (v vl vu : Value) (lo hi : Option Int) (sl : Addr) (Q : VK), Inv X pins σ H s → RelV x v → s.heap.IsSliceOf sl vl vu .none → IsPart vl lo → IsPart vu hi → r x lo hi H Q →
  ∃ T id, typeLookup (.type T) "__getitem__" = pure (some (.builtin id)) ∧ s.TypeIs v T ∧ wpAny (model X.prog X.w) X.A (getItem v (.ref sl)) (EP X pins σ Q) X.xe s
def tSl (r : V → Option Int → Option Int → Hp → VK → Prop) (te : TE) (tl th : TO) : TE := fun σ H Q => te σ H fun x H1 => tl σ H1 fun l H2 => th σ H2 fun u H3 => r x l u H3 Q
theorem pe_slice {r : V → Option Int → Option Int → Hp → VK → Prop} (hr : SlR X r) (he : PE X e te) (hl : PO X lo tl) (hu : PO X hi th) : PE X (.Subscript e (.Slice lo hi none p2) pos) (tSl r te tl th) := by
 intro pins s σ H Q I h
 refine Subscript_ (thn (he pins s σ H _ I h) fun v s1 ⟨x, H1, I1, r1, q1⟩ => ?_)
 refine wpAny_Slice (thn (hl pins s1 σ H1 _ I1 q1) fun vl s2 ⟨l, H2, I2, pl, q2⟩ => thn (hu pins s2 σ H2 _ I2 q2) fun vu s3 ⟨u, H3, I3, pu, q3⟩ => ?_)
 rw [evalPart_none]
 refine wpAny_pure ?_
 have I4 : Inv X pins σ H3 { s3 with heap := s3.heap.push { cls := .type "slice", data := .fields #[vl, vu, .none] } } := I3.kept (t' := s3.toks) fun b ob q => Heap.get?_push_of_some _ q
 obtain ⟨T, id, hT, ht, hg⟩ := hr pins { s3 with heap := s3.heap.push { cls := .type "slice", data := .fields #[vl, vu, .none] } } σ H3 x v vl vu l u s3.heap.objs.size Q I4 r1 (Heap.IsSliceOf.new ..) pl pu q3
 show wpAny (model X.prog X.w) X.A (subscriptTail e (.Slice lo hi none p2) v (.ref s3.heap.objs.size)) (EP X pins σ Q) X.xe { s3 with heap := s3.heap.push { cls := .type "slice", data := .fields #[vl, vu, .none] } }
 exact tail_any (ops := [.ref s3.heap.objs.size, v]) ht hT hg (by with_unfolding_all rfl)
def cutV (xs : List V) (lo hi : Option Int) : List V := (xs.drop (HT.sIx xs.length 0 lo)).take (HT.sIx xs.length xs.length hi - HT.sIx xs.length 0 lo)
theorem cutV_length (xs : List V) (lo hi : Option Int) : (cutV xs lo hi).length ≤ xs.length := by
 unfold cutV
 rw [List.length_take, List.length_drop]
 omega
def rSlT (K : W.Frag) : V → Option Int → Option Int → Hp → VK → Prop := fun x lo hi H Q => ∃ a xs, x = .ref a ∧ SqT K H a xs ∧
 ¬ (HT.sIx xs.length 0 lo = 0 ∧ HT.sIx xs.length xs.length hi = xs.length) ∧ ∀ p, H p = none → Q (.ref p) (upd H p (.tup (cutV xs lo hi)))
theorem sl_tup : SlR X (rSlT X.K) := by
 intro pins s σ H x v vl vu lo hi sl Q I rx hs pl pu h
 obtain ⟨a, xs, rfl, hx, hw, q⟩ := h
 cases rx
 obtain ⟨its, r, ht, hz⟩ := I.tuple hx
 have hlen : its.toArray.size = xs.length := by rw [List.size_toArray]; exact r.length.symm
 refine ⟨"tuple", _, PyProof.Rows.slot_tuple_getitem.lookup, ht.typeIs, ?_⟩
 refine HT.getItem_tuple_cut ht hs pl pu (by rw [hlen]; exact hw) ?_ (by rw [hlen]; exact hz)
 rw [hlen]
 refine ⟨.ref s.heap.objs.size, _, I.laid (t' := s.toks) (o := .tup (cutV xs lo hi)) (fun b ob q => Heap.get?_push_of_some _ q) (Nat.le_refl _) ?_, rfl, q _ (I.hok.fresh (Nat.le_refl _))⟩
 exact ⟨Nat.le_trans (cutV_length xs lo hi) hz, _, (r.drop (HT.sIx xs.length 0 lo)).take (HT.sIx xs.length xs.length hi - HT.sIx xs.length 0 lo), IsTup.new _ _⟩
end
end L2
namespace L2
open PySem PySem.Spec PyProof.Rows
def ixN (n : Nat) (i : Int) : Option Nat := if 0 ≤ i then (if i < n then some i.toNat else none) else if -(n : Int) ≤ i then some (i + n).toNat else none
def atI {α : Type} (xs : List α) (i : Int) : Option α := (ixN xs.length i).bind fun j => xs[j]?
theorem ixN_seq {n : Nat} {i : Int} {j : Nat} (h : ixN n i = some j) : seqIndex? i n = some j ∧ j < n ∧ -(n : Int) ≤ i ∧ i < n := by
 unfold ixN at h
 by_cases h0 : 0 ≤ i
 ·rw [if_pos h0] at h
  by_cases h1 : i < n
  ·rw [if_pos h1] at h
   have e : i.toNat = j := Option.some.inj h
   exact ⟨by rw [seqIndex_of h0 h1, e], by omega, by omega, h1⟩
  ·rw [if_neg h1] at h; cases h
 ·rw [if_neg h0] at h
  by_cases h1 : -(n : Int) ≤ i
  ·rw [if_pos h1] at h
   have e : (i + n).toNat = j := Option.some.inj h
   exact ⟨by rw [seqIndex_neg (by omega) h1, e], by omega, h1, by omega⟩
  ·rw [if_neg h1] at h; cases h
theorem atI_get {α : Type} {xs : List α} {i : Int} {v : α} (h : atI xs i = some v) : ∃ j, seqIndex? i xs.length = some j ∧ xs[j]? = some v ∧ j < xs.length ∧ -(xs.length : Int) ≤ i ∧ i < xs.length := by
 unfold atI at h
 cases e : ixN xs.length i with
 | none => rw [e] at h; cases h
 | some j =>
  rw [e] at h
  obtain ⟨h1, h2, h3, h4⟩ := ixN_seq e
  exact ⟨j, h1, h, h2, h3, h4⟩
theorem atI_nat {α : Type} {xs : List α} {j : Nat} {v : α} (h : xs[j]? = some v) : atI xs (j : Int) = some v := by
 have hj : j < xs.length := (List.getElem?_eq_some_iff.mp h).1
 have e : ixN xs.length (j : Int) = some j := by
  unfold ixN
  rw [if_pos (by omega), if_pos (by omega)]; simp
 unfold atI; rw [e]; exact h
theorem atI_last {α : Type} (xs : List α) (v : α) : atI (xs ++ [v]) (-1) = some v := by
 have hl : (xs ++ [v]).length = xs.length + 1 := by simp
 have e : ixN (xs ++ [v]).length (-1) = some xs.length := by
  unfold ixN
  rw [hl, if_neg (by decide), if_pos (by omega)]
  congr 1
  omega
 unfold atI
 rw [e]
 show (xs ++ [v])[xs.length]? = some v
 simp
def PlainIx (b : Expr) : Prop := ∀ o i, subscripted b false o i = operate [o, i] (getItem o i)
def IxR (X : Cx) (r : R2) : Prop :=
 ∀ (value slice : Expr) (pins : List (Addr × Obj)) (s : Shared) (σ : St) (H : Hp) (x y : V) (v u : Value) (Q : VK), Inv X pins σ H s → RelV x v → RelV y u → r x y H Q →
  subscripted slice false v u = operate [v, u] (getItem v u) → wpAny (model X.prog X.w) X.A (subscriptTail value slice v u) (EP X pins σ Q) X.xe s
def MtR (X : Cx) (id : String) (r : V → List V → Hp → VK → Prop) : Prop :=
 ∀ (pins : List (Addr × Obj)) (s : Shared) (σ : St) (H : Hp) (x : V) (xs : List V) (v : Value) (us : List Value) (Q : VK), Inv X pins σ H s → RelV x v → Vals xs us → r x xs H Q →
  wpAny (model X.prog X.w) X.A (call (.builtin id) (v :: us)) (EP X pins σ Q) X.xe s
section
variable {X : Cx} {a b : Expr} {ta tb : TE} {pos : Pos}
theorem pe_ix {r : R2} (hr : IxR X r) (ha : PE X a ta) (hb : PE X b tb) (hs : PlainIx b) : PE X (.Subscript a b pos) (tOp r ta tb) := by
 intro pins s σ H Q I h
 exact Subscript_ (binT ha hb I h fun v u s2 x y H2 I2 rx ry q => hr a b pins s2 σ H2 x y v u Q I2 rx ry q (hs _ _))
def rIxL (K : W.Frag) : R2 := fun x y H Q => ∃ p xs i v, x = .ref p ∧ y = .int i ∧ SqL K H p xs ∧ atI xs i = some v ∧ Q v H
def rIxT (K : W.Frag) : R2 := fun x y H Q => ∃ p xs i v, x = .ref p ∧ y = .int i ∧ SqT K H p xs ∧ atI xs i = some v ∧ Q v H
theorem ix_list : IxR X (rIxL X.K) := by
 intro value slice pins s σ H x y v u Q I rx ry h hs
 obtain ⟨p, xs, i, z, rfl, rfl, hq, he, q⟩ := h
 cases rx
 obtain ⟨t, rfl⟩ := ry
 obtain ⟨its, r, pl, hz⟩ := I.list hq
 obtain ⟨j, h1, h2, h3, h4, h5⟩ := atI_get he
 obtain ⟨w, ew, rw'⟩ := r.get h2
 have hl := r.length
 have hn := line63
 have fin : EP X pins σ Q w s := ⟨z, H, I, rw', q⟩
 by_cases h0 : 0 ≤ i
 ·have hj : i.toNat = j := by
   rw [seqIndex_of h0 h5] at h1
   exact Option.some.inj h1
  exact item_listR pl.isList h0 (by omega) (by rw [hj]; simpa using ew) fin hs
 ·have hj : (i + (its.toArray.size : Int)).toNat = j := by
   rw [seqIndex_neg (by omega) h4] at h1
   rw [List.size_toArray, ← hl]
   exact Option.some.inj h1
  exact subscriptTail_builtinR (x := w) pl.isList.typeIs slot_list_getitem.lookup
   (wpAny_getItem_list_neg (Q := fun r s' => r = w ∧ EP X pins σ Q r s') pl.isList (by omega) (by rw [List.size_toArray] <;> omega) (by omega) (by rw [hj]; simpa using ew) ⟨rfl, fin⟩) hs
theorem ix_tup : IxR X (rIxT X.K) := by
 intro value slice pins s σ H x y v u Q I rx ry h hs
 obtain ⟨p, xs, i, z, rfl, rfl, hq, he, q⟩ := h
 cases rx
 obtain ⟨t, rfl⟩ := ry
 obtain ⟨its, r, pl, hz⟩ := I.tuple hq
 obtain ⟨j, h1, h2, h3, h4, h5⟩ := atI_get he
 obtain ⟨w, ew, rw'⟩ := r.get h2
 have hl := r.length
 have hn := line63
 have fin : EP X pins σ Q w s := ⟨z, H, I, rw', q⟩
 exact subscriptTail_builtinR (x := w) pl.typeIs slot_tuple_getitem.lookup
  (getItem_tuple (j := j) (Q := fun r s' => r = w ∧ EP X pins σ Q r s') pl (by omega) (by omega) (by rw [List.size_toArray, ← hl]; exact h1) (by simpa using ew) ⟨rfl, fin⟩) hs
theorem mapSeq_set (its : List Value) (n j : Nat) (u : Value) : Obj.mapSeq (·.setIfInBounds j u) { cls := .type "list", data := .seq its.toArray n } = { cls := .type "list", data := .seq (its.set j u).toArray n } := by
 simp [Obj.mapSeq]
theorem Inv.lst {pins : List (Addr × Obj)} {σ : St} {H : Hp} {s : Shared} {p : Addr} {xs : List V} (I : Inv X pins σ H s) (h : H p = some (.lst xs)) :
  ∃ (its : List Value) (n : Nat), Vals xs its ∧ s.heap.get? p = some { cls := .type "list", data := .seq its.toArray n } ∧ xs.length ≤ sizeLine := by
 obtain ⟨z, its, n, r, e⟩ := I.hok p _ h
 exact ⟨its, n, r, e, z⟩
theorem Inv.lstUpd {pins : List (Addr × Obj)} {σ : St} {H : Hp} {s : Shared} {p : Addr} {xs ys : List V} {its its' : List Value} {n n' : Nat} {f : Obj → Obj} (I : Inv X pins σ H s) (h : H p = some (.lst xs))
  (ho : s.heap.get? p = some { cls := .type "list", data := .seq its.toArray n }) (hf : f { cls := .type "list", data := .seq its.toArray n } = { cls := .type "list", data := .seq its'.toArray n' }) (r : Vals ys its') (hz : ys.length ≤ sizeLine) (t : Nat) :
  Inv X pins σ (upd H p (.lst ys)) { s with heap := s.heap.update p f, toks := t } := by
 have e : (s.heap.update p f).get? p = some { cls := .type "list", data := .seq its'.toArray n' } := by
  rw [Heap.get?_update_self f ho (by rw [hf] <;> rfl), hf]
 refine I.write (x := p) (e := p) (by rw [h]; trivial) (.inl rfl) (fun b u hb q => (Heap.get?_update_other _ _ (Ne.symm hb)).trans q) ⟨_, e⟩ ?_
 exact ⟨hz, its', n', r, e⟩
def rSetL : V → V → V → Hp → (Hp → Prop) → Prop := fun o i v H Q => ∃ p xs k j, o = .ref p ∧ i = .int k ∧ H p = some (.lst xs) ∧ ixN xs.length k = some j ∧ Q (upd H p (.lst (xs.set j v)))
theorem set_list : PSet X rSetL := by
 intro pins s σ H o i v ov iv u Q I ro ri rv h
 obtain ⟨p, xs, k, j, rfl, rfl, hp, hj, q⟩ := h
 cases ro
 obtain ⟨t, rfl⟩ := ri
 obtain ⟨its, n, r, ho, hz⟩ := I.lst hp
 obtain ⟨h1, h2, h3, h4⟩ := ixN_seq hj
 have hl := r.length
 have hn := line63
 have I' : Inv X pins σ (upd H p (.lst (xs.set j v))) { s with heap := s.heap.update p (Obj.mapSeq (·.setIfInBounds j u)) } :=
  I.lstUpd hp ho (mapSeq_set its n j u) (r.set rv j) (by rw [List.length_set]; exact hz) s.toks
 by_cases h0 : 0 ≤ k
 ·have hk : k.toNat = j := by
   rw [seqIndex_of h0 h4] at h1
   exact Option.some.inj h1
  exact W.ki_setAt ho h0 (by omega) (by rw [List.size_toArray, ← hl]; exact h4) (by rw [hk]; exact ⟨_, I', q⟩)
 ·have hk : (k + (its.toArray.size : Int)).toNat = j := by
   rw [seqIndex_neg (by omega) h3] at h1
   rw [List.size_toArray, ← hl]
   exact Option.some.inj h1
  exact W.ki_setBack ho (by omega) (by rw [List.size_toArray, ← hl]; exact h3) (by omega) (by rw [hk]; exact ⟨_, I', q⟩)
theorem slice_bounds (lo hi : Option Int) (n : Nat) : (sliceBounds lo hi none n).1 = ((HT.sIx n 0 lo : Nat) : Int) ∧ (sliceBounds lo hi none n).2.1 = ((HT.sIx n n hi : Nat) : Int) ∧ (sliceBounds lo hi none n).2.2 = 1 := by
 refine ⟨?_, ?_, rfl⟩
 ·cases lo with
  | none => simp [sliceBounds, HT.sIx]
  | some i =>
   simp only [sliceBounds, HT.sIx, Option.getD_none, show (1 : Int) > 0 by decide, if_true]
   by_cases h : i < 0
   ·simp only [h, if_true] <;> omega
   ·simp only [h, if_false] <;> omega
 ·cases hi with
  | none => simp [sliceBounds, HT.sIx]
  | some i =>
   simp only [sliceBounds, HT.sIx, Option.getD_none, show (1 : Int) > 0 by decide, if_true]
   by_cases h : i < 0
   ·simp only [h, if_true] <;> omega
   ·simp only [h, if_false] <;> omega
theorem slicePick_cut (its : List Value) (lo hi : Option Int) : slicePick its.toArray lo hi none = ((its.drop (HT.sIx its.length 0 lo)).take (HT.sIx its.length its.length hi - HT.sIx its.length 0 lo)).toArray := by
 obtain ⟨h1, h2, h3⟩ := slice_bounds lo hi its.toArray.size
 unfold slicePick
 rw [h1, h2, h3]
 simp only [sliceRange_one, pick_run, List.size_toArray] <;> rfl
def rSlL (K : W.Frag) : V → Option Int → Option Int → Hp → VK → Prop := fun x lo hi H Q => ∃ a xs, x = .ref a ∧ SqL K H a xs ∧ ∀ p, H p = none → Q (.ref p) (upd H p (.lst (cutV xs lo hi)))
theorem sl_list : SlR X (rSlL X.K) := by
 intro pins s σ H x v vl vu lo hi sl Q I rx hs pl pu h
 obtain ⟨a, xs, rfl, hx, q⟩ := h
 cases rx
 obtain ⟨its, r, ht, hz⟩ := I.list hx
 have hlen := r.length
 refine ⟨"list", _, slot_list_getitem.lookup, ht.isList.typeIs, ?_⟩
 refine wpAny_getItem_list_slice ht.isList hs pl pu .none (by simp) ?_ (by rw [List.size_toArray] <;> omega)
 rw [slicePick_cut, ← hlen]
 refine ⟨.ref s.heap.objs.size, _, I.laid (t' := s.toks) (o := .lst (cutV xs lo hi)) (fun b ob q => Heap.get?_push_of_some _ q) (Nat.le_refl _) ?_, rfl, q _ (I.hok.fresh (Nat.le_refl _))⟩
 exact ⟨Nat.le_trans (cutV_length xs lo hi) hz, _, 0, (r.drop (HT.sIx xs.length 0 lo)).take (HT.sIx xs.length xs.length hi - HT.sIx xs.length 0 lo), Heap.get?_push_size _ rfl⟩
theorem call_len_seq : CallR X (.builtin "len") (fun xs H Q => ∃ p ys, xs = [.ref p] ∧ (SqL X.K H p ys ∨ SqT X.K H p ys) ∧ Q (.int ys.length) H) := by
 intro pins s σ H xs us Q I r h
 obtain ⟨p, ys, rfl, hq, q⟩ := h
 obtain ⟨u, rfl, rx⟩ := vals1 r
 cases rx
 have hn := line63
 rcases hq with hq | hq
 ·obtain ⟨its, r', pl, hz⟩ := I.list hq
  have hlen := r'.length
  exact Calls.call_len_list pl.isList (by simp only [List.size_toArray] <;> omega) ⟨.int ys.length, H, I.tok _, ⟨s.toks + 1, by rw [List.size_toArray, hlen]⟩, q⟩
 ·obtain ⟨its, r', pl, hz⟩ := I.tuple hq
  have hlen := r'.length
  exact len_tuple pl (by simp only [List.size_toArray] <;> omega) ⟨.int ys.length, H, I.tok _, ⟨s.toks + 1, by rw [List.size_toArray, hlen]⟩, q⟩
theorem call_len_str : CallR X (.builtin "len") (fun xs H Q => ∃ z, xs = [.str z] ∧ z.length ≤ sizeLine ∧ Q (.int z.length) H) := by
 intro pins s σ H xs us Q I r h
 obtain ⟨z, rfl, hz, q⟩ := h
 obtain ⟨u, rfl, t, rfl⟩ := vals1 r
 have hn := line63
 exact len_str (by omega) ⟨.int z.length, H, I.tok _, ⟨_, rfl⟩, q⟩
theorem CallR.or {f : Value} {r r' : List V → Hp → VK → Prop} (h : CallR X f r) (h' : CallR X f r') : CallR X f (fun xs H Q => r xs H Q ∨ r' xs H Q) := by
 intro pins s σ H xs us Q I rs q
 rcases q with q | q
 ·exact h pins s σ H xs us Q I rs q
 ·exact h' pins s σ H xs us Q I rs q
theorem call_list_of : CallR X (.type "list") (fun xs H Q => ∃ p ys, xs = [.ref p] ∧ (SqL X.K H p ys ∨ SqT X.K H p ys) ∧ ∀ l, H l = none → Q (.ref l) (upd H l (.lst ys))) := by
 intro pins s σ H xs us Q I r h
 obtain ⟨p, ys, rfl, hq, q⟩ := h
 obtain ⟨u, rfl, rx⟩ := vals1 r
 cases rx
 have fin : ∀ (its : List Value), Vals ys its → ys.length ≤ sizeLine → ∀ (h' : Heap) (c' : Nat), (∀ b o', s.heap.get? b = some o' → h'.get? b = some o') →
   h'.get? s.heap.objs.size = some { cls := .type "list", dict := none, data := .seq its.toArray c', slots := #[] } → EP X pins σ Q (.ref s.heap.objs.size) { s with heap := h' } := fun its r' hz h' c' kp e =>
  ⟨.ref s.heap.objs.size, _, I.laid (t' := s.toks) kp (Nat.le_refl _) (show ObjOk X.prog X.w _ h' _ (.lst ys) from ⟨hz, its, c', r', e⟩), rfl, q _ (I.hok.fresh (Nat.le_refl _))⟩
 rcases hq with hq | hq
 ·obtain ⟨its, r', pl, hz⟩ := I.list hq
  have hlen := r'.length
  obtain ⟨o, ho, hc, n, hd⟩ := pl.isList
  exact call_list_seq p (.inl rfl) ho hc hd (fun h' c' kp e => fin its r' hz h' c' kp e) (by simp only [List.size_toArray] <;> omega)
 ·obtain ⟨its, r', pl, hz⟩ := I.tuple hq
  have hlen := r'.length
  obtain ⟨o, ho, hc, n, hd⟩ := pl
  exact call_list_seq p (.inr rfl) ho hc hd (fun h' c' kp e => fin its r' hz h' c' kp e) (by simp only [List.size_toArray] <;> omega)
theorem call_tuple_of : CallR X (.type "tuple") (fun xs H Q => ∃ p ys, xs = [.ref p] ∧ ((SqL X.K H p ys ∧ ∀ l, H l = none → Q (.ref l) (upd H l (.tup ys))) ∨ (SqT X.K H p ys ∧ Q (.ref p) H))) := by
 intro pins s σ H xs us Q I r h
 obtain ⟨p, ys, rfl, h⟩ := h
 obtain ⟨u, rfl, rx⟩ := vals1 r
 cases rx
 rcases h with ⟨hq, q⟩ | ⟨hq, q⟩
 ·obtain ⟨its, r', pl, hz⟩ := I.list hq
  have hlen := r'.length
  refine call_tuple_list pl.isList (fun h' kp => ?_) (by simp only [List.size_toArray] <;> omega)
  have I1 : Inv X pins σ H { s with heap := h' } := I.kept (t' := s.toks) kp
  have I2 : Inv X pins σ (upd H h'.objs.size (.tup ys)) { s with heap := h'.push { cls := .type "tuple", data := .seq its.toArray } } :=
   I1.laid (t' := s.toks) (fun b o e => Heap.get?_push_of_some _ e) (Nat.le_refl _) (show ObjOk X.prog X.w _ _ _ (.tup ys) from ⟨hz, its, r', IsTup.new _ _⟩)
  exact ⟨.ref h'.objs.size, _, I2, rfl, q _ (I1.hok.fresh (Nat.le_refl _))⟩
 ·obtain ⟨its, r', pl, hz⟩ := I.tuple hq
  exact call_tuple_same pl ⟨.ref p, H, I, rfl, q⟩
def tyV (K : W.Frag) (T : String) (x : V) (H : Hp) : Prop := match x with
 | .str _ => T = "str"
 | .int _ => T = "int"
 | .ref p => (T = "list" ∧ ∃ xs, SqL K H p xs) ∨ (T = "tuple" ∧ ∃ o, K.lookup p = some o ∧ o.cls = .type "tuple" ∧ o.dict = none) ∨
   (T = "dict" ∧ ((∃ kvs, H p = some (.dK kvs)) ∨ ∃ kvs, H p = some (.dT kvs))) ∨ (T = "set" ∧ ∃ S n, H p = some (.set S n))
 | _ => False
theorem tyV_is {pins : List (Addr × Obj)} {σ : St} {H : Hp} {s : Shared} {T : String} {x : V} {v : Value} (I : Inv X pins σ H s) (r : RelV x v) (ty : tyV X.K T x H) :
  s.TypeIs v T ∧ ∀ a, v = .ref a → ∃ ob, s.heap.get? a = some ob ∧ ob.dict = none := by
 cases x with
 | str z =>
  obtain ⟨t, rfl⟩ := r
  cases (show T = "str" from ty)
  exact ⟨typeIs_str s z t, fun _ e => nomatch e⟩
 | int i =>
  obtain ⟨t, rfl⟩ := r
  cases (show T = "int" from ty)
  exact ⟨typeIs_int s i t, fun _ e => nomatch e⟩
 | ref p =>
  cases r
  rcases ty with ⟨rfl, xs, hq⟩ | ⟨rfl, o, hk, hc, hd⟩ | ⟨rfl, hk⟩ | ⟨rfl, S, n, hk⟩
  ·obtain ⟨its, _, pl, _⟩ := I.list hq
   refine ⟨pl.isList.typeIs, fun a e => ?_⟩
   cases e
   obtain ⟨o, n, e, c, hd, _⟩ := pl
   exact ⟨o, e, hd⟩
  ·refine ⟨⟨o, I.kIn p o hk, hc⟩, fun a e => ?_⟩
   cases e
   exact ⟨o, I.kIn _ o hk, hd⟩
  ·have z : ∃ o, s.heap.get? p = some o ∧ o.ExactDict := by
    rcases hk with ⟨kvs, hk⟩ | ⟨kvs, hk⟩
    ·obtain ⟨_, _, _, _, o, _, _, e, ex, _⟩ := I.hok p _ hk
     exact ⟨o, e, ex⟩
    ·obtain ⟨_, _, _, _, o, _, _, e, ex, _⟩ := I.hok p _ hk
     exact ⟨o, e, ex⟩
   obtain ⟨o, e, ex⟩ := z
   refine ⟨⟨o, e, ex.1⟩, fun a e2 => ?_⟩
   cases e2
   exact ⟨o, e, ex.2.1⟩
  ·obtain ⟨o, _, _, _, e, ex, _⟩ := I.hok p _ hk
   refine ⟨⟨o, e, ex.1⟩, fun a e2 => ?_⟩
   cases e2
   exact ⟨o, e, ex.2.1⟩
 | _ => exact False.elim ty
def tBM0 (K : W.Frag) (T : String) (r : V → List V → Hp → VK → Prop) (to : TE) : TE := fun σ H Q => to σ H fun x H1 => tyV K T x H1 ∧ r x [] H1 Q
def tBM (K : W.Frag) (T : String) (r : V → List V → Hp → VK → Prop) (to : TE) (t : TA) : TE := fun σ H Q => to σ H fun x H1 => tyV K T x H1 ∧ t σ H1 fun xs H2 => r x xs H2 Q
variable {o e : Expr} {es : List Expr} {to : TE} {t : TA} {name : Str} {apos cpos : Pos} {T id : String} {r : V → List V → Hp → VK → Prop}
theorem pe_bm0 (pa : PlainAttrs T) (slot : Slot T name id) (hty : typeOf (.builtin id) = pure (.type "method_descriptor")) (hm : MtR X id r) (ho : PE X o to)
  (hbase : attributeBase o name X.env (eval o X.env) = eval o X.env := by rfl) (hline : (apos.endLine == cpos.line) = true := by rfl) : PE X (.Call (.Attribute o name apos) [] [] cpos) (tBM0 X.K T r to) := by
 intro pins s σ H Q I h
 refine wpAny_Call_method0_late hbase hline (thn (ho pins s σ H _ I h) fun v s1 ⟨x, H1, I1, r1, ty, q1⟩ => ?_)
 obtain ⟨h1, h2⟩ := tyV_is I1 r1 ty
 exact ⟨T, id, pa, slot, hty, h1, h2, Calls.callWith_builtin rfl (PySem.evalArgs_none (hm pins s1 σ H1 x [] v [] Q I1 r1 .nil q1))⟩
theorem pe_bm (pa : PlainAttrs T) (slot : Slot T name id) (hty : typeOf (.builtin id) = pure (.type "method_descriptor")) (hm : MtR X id r) (ho : PE X o to) (ha : PA X (e :: es) t)
  (hbase : attributeBase o name X.env (eval o X.env) = eval o X.env := by rfl)
  (hfew : ((backTo cpos (starEach (e :: es) X.env)).all (fun x => !x.1) && (backToKw cpos (keywordEach [] X.env)).all (fun x => x.1.isSome)
   && decide ((e :: es).length + ([] : List Keyword).length + (if ([] : List Keyword).isEmpty then 0 else 1) < 30)) = true := by rfl)
  (hline : (apos.endLine == cpos.line) = true := by rfl) (hs : starEach (e :: es) X.env = (false, eval e X.env) :: starEach es X.env := by rfl) (hplain : (backTo cpos (starEach es X.env)).any (·.1) = false := by rfl) :
  PE X (.Call (.Attribute o name apos) (e :: es) [] cpos) (tBM X.K T r to t) := by
 intro pins s σ H Q I h
 refine wpAny_Call_method_late hbase hfew hline rfl (thn (ho pins s σ H _ I h) fun v s1 ⟨x, H1, I1, r1, ty, q1⟩ => ?_)
 obtain ⟨h1, h2⟩ := tyV_is I1 r1 ty
 refine ⟨T, id, pa, slot, hty, h1, h2, ?_⟩
 have hA := ha cpos pins s1 σ H1 _ I1 q1
 rw [hs] at hA ⊢
 refine Calls.callWith_builtin (by show (false || (backTo cpos (starEach es X.env)).any (·.1)) = false; rw [hplain] <;> rfl) (Calls.evalArgs_plain ?_)
 exact thn hA fun us s2 ⟨vs, H2, I2, r2, q2⟩ => hm pins s2 σ H2 x vs v us Q I2 r1 r2 q2
end
end L2
namespace L2
open PySem PySem.Spec PyProof.Rows
def MtM (X : Cx) (id : String) (r : V → List V → Hp → VK → Prop) : Prop :=
 ∀ (pins : List (Addr × Obj)) (s : Shared) (σ : St) (H : Hp) (x : V) (xs : List V) (v : Value) (us : List Value) (Q : VK), Inv X pins σ H s → RelV x v → Vals xs us → r x xs H Q →
  wpAny (model X.prog X.w) X.A (call (.builtin id) (v :: us)) (EP X pins σ Q) X.xe s
theorem Vals.one : ∀ {x : V} {us : List Value}, Vals [x] us → ∃ u, us = [u] ∧ RelV x u
 | _, _, .cons r .nil => ⟨_, rfl, r⟩
section
variable {X : Cx} {pins : List (Addr × Obj)} {σ : St} {H : Hp} {s : Shared} {l b : Addr} {xs ys zs : List V}
theorem Inv.lset {its its' : List Value} {n : Nat} {f : Array Value → Array Value} {t' : Nat} (I : Inv X pins σ H s) (hH : H l = some (.lst xs))
  (e : s.heap.get? l = some { cls := .type "list", data := .seq its.toArray n }) (hf : f its.toArray = its'.toArray) (hv : Vals ys its') (hz : ys.length ≤ sizeLine) :
  Inv X pins σ (upd H l (.lst ys)) { s with heap := s.heap.update l (Obj.mapSeq f), toks := t' } := by
 have q := PySem.IsL.update e f
 rw [hf] at q
 refine I.write (x := l) (e := l) (by rw [hH]; exact trivial) (.inl rfl) (fun b' u hb hu => (Heap.get?_update_other s.heap (Obj.mapSeq f) (Ne.symm hb)).trans hu) ⟨_, q⟩ ?_
 exact ⟨hz, its', _, hv, q⟩
theorem Inv.lnew {its : List Value} {t' : Nat} (I : Inv X pins σ H s) (hv : Vals ys its) (hz : ys.length ≤ sizeLine) :
  Inv X pins σ (upd H s.heap.objs.size (.lst ys)) { s with heap := s.heap.push { cls := .type "list", data := .seq its.toArray }, toks := t' } :=
 I.laid (fun _ _ q => Heap.get?_push_of_some _ q) (Nat.le_refl _) ⟨hz, its, 0, hv, Heap.get?_push_size _ rfl⟩
theorem Inv.fresh (I : Inv X pins σ H s) : H s.heap.objs.size = none := I.hok.fresh (Nat.le_refl _)
theorem Inv.lstM (I : Inv X pins σ H s) (hH : H l = some (.lst xs)) : xs.length ≤ sizeLine ∧ ∃ (its : List Value) (n : Nat), Vals xs its ∧ xs.length = its.length ∧ s.heap.get? l = some { cls := .type "list", data := .seq its.toArray n } := by
 obtain ⟨z, its, n, r, e⟩ := I.hok l _ hH
 exact ⟨z, its, n, r, r.length, e⟩
theorem notLongL {n : Nat} (h : n ≤ sizeLine) : Builtin.List.listTooLong n = false := by
 unfold Builtin.List.listTooLong
 exact decide_eq_false (by omega)
end
section
variable {X : Cx}
def rAppend : V → List V → Hp → VK → Prop := fun x vs H Q => ∃ l xs y, x = .ref l ∧ vs = [y] ∧ H l = some (.lst xs) ∧ xs.length < sizeLine ∧ Q .non (upd H l (.lst (xs ++ [y])))
theorem mt_append : MtM X "list.append" rAppend := by
 intro pins s σ H x vs v us Q I rx rv h
 obtain ⟨l, xs, y, rfl, rfl, hH, hz, q⟩ := h
 cases rx
 obtain ⟨u, rfl, ru⟩ := rv.one
 obtain ⟨z, its, n, r, hl, e⟩ := I.lstM hH
 refine call_meets F.slot_list_append ⟨_, e, rfl⟩ F.entry_list_append (F.args_list_append_2 _ _) (PySem.list_append l its.toArray n u (by rw [List.size_toArray]; omega)) ⟨e, ?_⟩
 refine ⟨.non, _, I.lset (its' := its ++ [u]) hH e (by simp) (r.append (.cons ru .nil)) ?_, rfl, q⟩
 rw [List.length_append, List.length_singleton]
 omega
def rExtend : V → List V → Hp → VK → Prop := fun x vs H Q => ∃ l b xs zs, x = .ref l ∧ vs = [.ref b] ∧ H l = some (.lst xs) ∧ H b = some (.lst zs) ∧ xs.length + zs.length ≤ sizeLine ∧ Q .non (upd H l (.lst (xs ++ zs)))
theorem mt_extend : MtM X "list.extend" rExtend := by
 intro pins s σ H x vs v us Q I rx rv h
 obtain ⟨l, b, xs, zs, rfl, rfl, hH, hB, hz, q⟩ := h
 cases rx
 obtain ⟨u, rfl, ru⟩ := rv.one
 cases ru
 obtain ⟨z, its, n, r, hl, e⟩ := I.lstM hH
 obtain ⟨z2, its2, n2, r2, hl2, e2⟩ := I.lstM hB
 have hsz : its.toArray.size + its2.toArray.size ≤ sizeLine := by rw [List.size_toArray, List.size_toArray]; omega
 have hlong : ¬ (!its.toArray.isEmpty && Builtin.List.listTooLong (its.toArray.size + its2.toArray.size)) = true := by
  rw [notLongL hsz, Bool.and_false]
  exact Bool.false_ne_true
 refine call_meets F.slot_list_extend ⟨_, e, rfl⟩ F.entry_list_extend (F.args_list_extend_2 _ _)
  (AutoSeq1.list_extend_list_list_0 l its.toArray n b its2.toArray n2 hlong (by rw [List.size_toArray]; omega) (by omega)) ⟨e, e2, ?_⟩
 refine ⟨.non, _, I.lset (its' := its ++ its2) hH e (by simp) (r.append r2) ?_, rfl, q⟩
 rw [List.length_append]
 omega
def rCat : R2 := fun x y H Q => ∃ l b xs zs, x = .ref l ∧ y = .ref b ∧ H l = some (.lst xs) ∧ H b = some (.lst zs) ∧ xs.length + zs.length ≤ sizeLine ∧ ∀ p, H p = none → Q (.ref p) (upd H p (.lst (xs ++ zs)))
theorem op_cat : OpR X (binaryOp .Add) rCat := by
 intro pins s σ H x y v u Q I rx ry h
 obtain ⟨l, b, xs, zs, rfl, rfl, hH, hB, hz, q⟩ := h
 cases rx
 cases ry
 obtain ⟨z, its, n, r, hl, e⟩ := I.lstM hH
 obtain ⟨z2, its2, n2, r2, hl2, e2⟩ := I.lstM hB
 refine PySem.P.add_list e e2 ?_ (by rw [List.size_toArray, List.size_toArray]; omega)
 have ea : its.toArray ++ its2.toArray = (its ++ its2).toArray := by simp
 rw [ea]
 exact ⟨.ref _, _, I.lnew (t' := s.toks) (r.append r2) (by rw [List.length_append]; omega), rfl, q _ I.fresh⟩
end
section
variable {prog : Program} {w : World} {A : Around} {E : Value → Shared → Prop} {s : Shared}
set_option maxRecDepth 100000 in
end
section
variable {X : Cx}
end
end L2
namespace Att
open PySem PySem.W PySem.Calls PyProof.Rows
theorem ints_of_wellAll {P : Params} {h : Heap} : ∀ (ns : List Int) (vs : List Value), WellAll P h vs (ns.map WData.int) → IntsAre vs ns := by
 intro ns
 induction ns with
 | nil =>
  intro vs w
  rw [List.map_nil] at w
  cases w
  exact .nil
 | cons n ns ih =>
  intro vs w
  rw [List.map_cons] at w
  cases w with
  | cons a b =>
   cases a
   exact .cons _ _ (ih _ b)
theorem script_of {l : OpenLaw} {n : Nat} (hn : l.most = some n) {P : Params} {h : Heap} {args : List WData} {vals : List Value}
  (hpre : l.row.toRowW.claim.pre args = true) (hwl : WellAll P h vals args) :
  ∃ a vs ns, vals = [Value.ref a] ∧ args = [WData.list (ns.map WData.int)] ∧ h.get? a = some { cls := .type "list", data := .seq vs.toArray } ∧ IntsAre vs ns ∧ ns.length ≤ n := by
 have hsh : WShape.hasAll [] args [.list .int] = true := (pre_splitW hpre).1
 have hc : l.pre.holds [] { args := args } = true := (pre_splitW hpre).2
 obtain ⟨d, r, rfl, h1, h2⟩ := hasAllW_cons hsh
 obtain rfl := hasAllW_nil h2
 obtain ⟨xs, rfl, h3⟩ := hasW_list h1
 obtain ⟨ns, rfl⟩ := items_int h3
 have hlen : ns.length ≤ n := by
  unfold OpenLaw.pre at hc
  have h4 : (WTm.not (.lt (.lit (.int (n : Int))) (.len (.arg 0)))).holds [] { args := [.list (ns.map .int)] } = true := by
   have h4 := (holds_andW hc).1
   rw [hn] at h4
   exact h4
  have h5 := condW_of h4 (w_not (w_lt w_lit (w_len_list (w_arg rfl))))
  rw [List.length_map] at h5
  refine Nat.le_of_not_lt fun q => ?_
  have q' : (n : Int) < ((ns.length : Nat) : Int) := by omega
  first
   | (rw [decide_eq_true q'] at h5; exact absurd h5 (by decide))
   | (simp at h5; omega)
 cases hwl with
 | cons w1 w2 =>
  cases w2
  cases w1 with
  | list ho hall => exact ⟨_, _, ns, rfl, rfl, ho, ints_of_wellAll ns _ hall, hlen⟩
theorem post_true (l : OpenLaw) (args : List WData) : l.row.toRowW.claim.post args (.bool true) args = true :=
 postW_of (r := l.row.toRowW) (X := (true == true))
  (show WShape.has [] (.bool true) .bool = true by first | rfl | decide | simp [WShape.has, WShape.arms, WShape.armsAll])
  (show (WTm.eq .res (.lit (.bool true))).value [] { args := args, res := some (.bool true), after := args } = some (.bool (true == true)) from w_eq_bool (w_res rfl) w_lit) rfl
theorem attach_call {l : OpenLaw} {n : Nat} {q : Program} {loose : List Str} {XP : (Str → Option Value) → Heap → Prop} {YP : World → Heap → Prop} {d : DefRec}
  (hn : l.most = some n) (hdf : d.params.defaults = [])
  (call : ∀ (w : World) (s₀ s₁ : Shared) (mg mb : Str → Option Value) (fa : Addr) (o : Obj) (pm cd doc : Value) (a : Addr) (vs : List Value) (ns : List Int),
   Ground q loose [] XP w s₀ mg mb s₁.heap → YP w s₁.heap →
   s₁.heap.get? fa = some o → o.data = .func (docDef d.name d.params d.body d.scope pm cd doc) → s₁.heap.CodeRec cd d.name → mg d.name = some (.ref fa) →
   s₁.heap.get? a = some { cls := .type "list", data := .seq vs.toArray } → IntsAre vs ns → ns.length ≤ n → s₁.gens = #[] →
   codeAny (model l.prog w) callerA (.call (.ref fa) ⟨[.ref a], []⟩) (fun r s' => r = .ok (.ret (.bool true)) ∧ OldK s₁.heap s'.heap ∧ s'.os = s₁.os ∧ AllBare s'.gens) s₁) :
  WalkO q loose XP YP l.row.toRowW d [] (fun f vs => PySem.call f vs) := by
 intro w s₀ s₁ mg mb G Y fa o pm cd doc dV kV ho hd hcd hD hmg hg args vals as hpre hlay hrd hwl hlo
 obtain rfl : dV = .none := Dflts.none hD hdf
 obtain rfl : kV = .none := Dflts.noKw hD
 obtain ⟨a, vs, ns, rfl, rfl, hobj, hints, hlen⟩ := script_of hn hpre hwl
 refine enter_call (codeAny_mono (call w s₀ s₁ mg mb fa o pm cd doc a vs ns G Y ho (fd_plain hd) hcd hmg hobj hints hlen hg) fun r s' hq => ?_)
 obtain ⟨rfl, h2, h3, h4⟩ := hq
 exact ⟨.inl ⟨.bool true, .bool true, [], rfl, fun _ => rfl, .bool true, post_true l _, fun _ => ⟨List.Pairwise.nil, fun _ hm => (nomatch hm)⟩⟩, h2, h3, h4⟩
section
variable {prog : Program} {w : World} {A : Around} {E : Value → Shared → Prop} {s : Shared} {K : Frag}
end
end Att
namespace L2
open PySem PySem.Spec PyProof.Rows
theorem vals_ints : ∀ {vs : List Value} {ns : List Int}, IntsAre vs ns → Vals (ns.map V.int) vs
 | _, _, .nil => .nil
 | _, _, .cons n t h => .cons ⟨t, rfl⟩ (vals_ints h)
def Only (H : Hp) : Prop := ∀ b, H b = none ∨ ∃ o xs, H b = some (.frz o (.lst xs))
theorem law_call {P : Program} {w : World} {K : W.Frag} {mg mb : Str → Option Value} {CX : CXT} {k : Nat} {fa a : Addr} {fd : FuncData} {x : Str} {sp : Sp} {s₁ : Shared} {vs : List Value} {ns : List Int}
  (KX : K.In s₁.heap) (hns : s₁.heap.Ns mainGlobals mg) (hb : s₁.heap.Ns builtinsNs mb) (hbb : ∀ x : Str, x ≠ "__name__" → mb x = bootBuiltins x) (hlim : s₁.heap.NoLimit) (hg : s₁.gens = #[])
  (ha : s₁.heap.get? a = some { cls := .type "list", data := .seq vs.toArray }) (hi : IntsAre vs ns) (hl : ns.length ≤ sizeLine) (hr : Room k callerA)
  (F : ∀ base : Heap, K.In base → base.Ns mainGlobals mg → FnOk P w K mg base CX k fa fd [x] sp) (hbind : ∀ (s : Shared) (u : Value), BindsTo s fd ⟨[u], []⟩ [(x, u)])
  (hsp : ∀ H : Hp, Only H → SqL K H a (ns.map V.int) → sp [.ref a] H (fun v _ => v = .bl true) fun _ _ _ => False)
  (hCX : ∀ H e s', CX [] H s₁ (fun _ _ _ => False) e s' → False) :
  codeAny (model P w) callerA (.call (.ref fa) ⟨[.ref a], []⟩) (fun r s' => r = .ok (.ret (.bool true)) ∧ OldK s₁.heap s'.heap ∧ s'.os = s₁.os ∧ AllBare s'.gens) s₁ := by
 have rv := vals_ints hi
 have lenV := hi.length
 have core : ∀ H : Hp, Only H → SqL K H a (ns.map V.int) → HOk P w H s₁.heap → (∀ b, H b ≠ none → b = a) → (H a ≠ none → K.lookup a = none) →
   codeAny (model P w) callerA (.call (.ref fa) ⟨[.ref a], []⟩) (fun r s' => r = .ok (.ret (.bool true)) ∧ OldK s₁.heap s'.heap ∧ s'.os = s₁.os ∧ AllBare s'.gens) s₁ := by
  intro H hO hS hok hA hK
  have base_of : ∀ {b : Addr} {o : Obj}, s₁.heap.get? b = some o → H b = none → (hidT s₁.heap H).get? b = some o := fun e n => hidT_get e n
  have noA : ∀ {b : Addr} {o : Obj} {es : Array DictEntry} {ep : Nat}, s₁.heap.get? b = some o → o.data = .dict es ep → H b = none := fun {b o es ep} e d => by
   cases q : H b with
   | none => rfl
   | some u =>
    have e' : b = a := hA b (by rw [q]; simp)
    subst e'
    rw [ha] at e; cases e
    have d' : Data.seq vs.toArray _ = Data.dict es ep := d
    cases d'
  have nsK : ∀ {b : Addr} {m : Str → Option Value}, s₁.heap.Ns b m → (hidT s₁.heap H).Ns b m := fun {b m} ⟨o, es, ep, e, d, r⟩ => ⟨o, es, ep, base_of e (noA e d), d, r⟩
  have hKb : K.In (hidT s₁.heap H) := fun b o e => base_of (KX b o e) (by
   cases q : H b with
   | none => rfl
   | some u =>
    have e' : b = a := hA b (by rw [q]; simp)
    subst e'
    rw [hK (by rw [q]; simp)] at e; cases e)
  have hM : Mod K mg (hidT s₁.heap H) := ⟨hKb, nsK hns, ⟨mb, nsK hb, hbb⟩, let ⟨mc, h1, h2⟩ := hlim; ⟨mc, nsK h1, h2⟩⟩
  have e0 : Env0 P w K mg (hidT s₁.heap H) callerA [] s₁ H := ⟨rfl, hM, fun b o e => of_hidT e, Nat.le_of_eq (hidT_size _ _), trivial, fun b hb => absurd (show b ∈ ([] : List Addr) from hb) (by simp), hok, .of_eq hg⟩
  refine codeAny_mono ((F _ hKb (nsK hns)).run callerA [] s₁ H ⟨[.ref a], []⟩ [.ref a] [.ref a] _ _ hr e0 (hbind s₁ (.ref a)) (.cons rfl .nil) (hsp H hO hS)) fun r s' h => ?_
  cases r with
  | error e => exact (hCX H e s' h).elim
  | ok fl =>
   cases fl with
   | next => exact False.elim h
   | brk => exact False.elim h
   | cont => exact False.elim h
   | ret u =>
    obtain ⟨v, H', os, bare, un, hok', r', q⟩ := h
    have q' : v = .bl true := q
    subst q'
    obtain rfl : u = Value.bool true := r'
    refine ⟨rfl, OldK.of_keep fun b o e => ?_, os, bare⟩
    cases q : H b with
    | none => exact un.keep b o e q (by intro z; exact absurd (show b ∈ ([] : List Addr) from z) (by simp)) (by simp)
    | some u =>
     rcases hO b with z | ⟨ob, xs, z⟩
     ·rw [q] at z; cases z
     ·have z2 := un.frzs b ob _ z
      obtain ⟨e1, _⟩ := hok b _ z
      obtain ⟨e2, _⟩ := hok' b _ z2
      rw [e] at e1; cases e1
      exact e2
 cases hk : K.lookup a with
 | some o =>
  have e := KX a o hk
  rw [ha] at e
  cases e
  refine core (fun _ => none) (fun _ => .inl rfl) (.inr ⟨_, vs.toArray, _, hk, rfl, rfl, rfl, by rw [List.size_toArray, lenV]; exact hl, by simpa using rv⟩) (fun b u z => by have z' : (none : Option HO) = some u := z; cases z') (fun b z => absurd rfl z) fun z => absurd rfl z
 | none =>
  refine core (fun b => if b = a then some (.frz { cls := .type "list", data := .seq vs.toArray } (.lst (ns.map V.int))) else none) (fun b => ?_) (.inl (.inr ⟨{ cls := .type "list", data := .seq vs.toArray }, if_pos rfl⟩)) (fun b u z => ?_) (fun b z => ?_) fun _ => hk
  ·by_cases hb : b = a
   ·exact .inr ⟨_, _, if_pos hb⟩
   ·exact .inl (if_neg hb)
  ·by_cases hb : b = a
   ·have z' := (if_pos hb).symm.trans z
    cases z'
    subst hb
    exact ⟨ha, by rw [List.length_map]; exact hl, vs, _, rv, ha⟩
   ·have z' := (if_neg hb).symm.trans z
    cases z'
  ·by_cases hb : b = a
   ·exact hb
   ·exact absurd (if_neg hb) z
end L2
namespace L2
open PySem PySem.Spec PyProof.Rows
end L2
namespace L2
open PySem PySem.Spec PyProof.Rows
abbrev CX0 : CXT := fun _ _ _ _ _ _ => False
abbrev E0 : XK := fun _ _ _ => False
theorem pass0 {X : Cx} : Passes CX0 X E0 := fun _ _ _ _ _ _ _ h => h.elim
structure Fun (K : W.Frag) (x qual : Str) (st : Stmt) (f : Addr) (fd : FuncData) : Prop where
 ex : ∃ (oc : Value) (od : Option Addr) (kV doc pm : Value) (an : Option Addr) (cdv ct : Value) (osl : Array (Option Value)),
  fd = W.fnOf x qual (defArgs st) (defBody st) (defScope st) .none kV doc pm an cdv ct ∧ K.lookup f = some ⟨oc, od, .func fd, osl⟩ ∧ W.codeIn K cdv qual = true
 kp : W.keepIn K (.ref f) = true
section
variable {P : Program} {w : World} {K : W.Frag} {mg : Str → Option Value} {base : Heap}
theorem Fun.ok {x qual : Str} {st : Stmt} {f : Addr} {fd : FuncData} {N ps : List Str} {k : Nat} {sp : Sp} (F : Fun K x qual st f fd) (S : FnScope N ps (defScope st)) (len : ∀ vs H Q E, sp vs H Q E → vs.length = ps.length)
  (hbody : ∀ (cdv : Value) (A : Around) (outer : List Env) (s : Shared) (H : Hp) (vs : List V) (Q : VK) (E : XK), Room k (A.deeper (envOfC qual (defScope st) s.heap.objs.size f cdv)) → sp vs H Q E →
   ∃ t, PSs (cxOf CX0 P w K mg base N qual (defScope st) f cdv A outer s H E).nox (defBody st) t ∧ t { nx := fun _ H' => Q .non H', rt := Q } (start N vs) H) : FnOk P w K mg base CX0 (k + 1) f fd ps sp := by
 obtain ⟨oc, od, kV, doc, pm, an, cdv, ct, osl, rfl, lk, hcd⟩ := F.ex
 refine fn_of lk hcd S len fun A outer s H vs Q E hr hsp => ?_
 obtain ⟨t, h, q⟩ := hbody cdv A outer s H vs Q E hr hsp
 exact ⟨t, h.nox, q⟩
theorem Fun.binds {x qual : Str} {st : Stmt} {f : Addr} {fd : FuncData} {ps : List Str} (F : Fun K x qual st f fd)
  (h : ∀ (kV doc pm : Value) (an : Option Addr) (cdv ct : Value) (us : List Value), us.length = ps.length → bindArgs (W.fnOf x qual (defArgs st) (defBody st) (defScope st) .none kV doc pm an cdv ct) ⟨us, []⟩ = pure (ps.zip us)) : Binds K fd ps [] := by
 obtain ⟨oc, od, kV, doc, pm, an, cdv, ct, osl, rfl, lk, hcd⟩ := F.ex
 exact .all (h kV doc pm an cdv ct)
theorem fun_mk {x qual : Str} {st : Stmt} {f : Addr} {oc : Value} {od an : Option Addr} {osl : Array (Option Value)} {kV doc pm cdv ct : Value} (l : K.lookup f = some ⟨oc, od, .func (W.fnOf x qual (defArgs st) (defBody st) (defScope st) .none kV doc pm an cdv ct), osl⟩)
  (c : W.codeIn K cdv qual = true) (k : W.keepIn K (.ref f) = true) : Fun K x qual st f (W.fnOf x qual (defArgs st) (defBody st) (defScope st) .none kV doc pm an cdv ct) := ⟨⟨oc, od, kV, doc, pm, an, cdv, ct, osl, rfl, l, c⟩, k⟩
end
theorem hu_of {A : Around} {k : Nat} (hr : Room k A) : A.units + 1 < cLine := Nat.lt_of_le_of_lt (Nat.add_le_add_left (by decide : 1 ≤ 64) _) hr.units
theorem small1000 {n : Nat} (h : n ≤ 1000) : n < sizeLine := Nat.lt_of_le_of_lt h (by decide)
section
variable {X : Cx}
theorem pv (i : Nat) {x : Str} {pos : Pos} (hN : X.N[i]? = some x := by rfl) (hv : Vis X.env.scope x := by first | exact Or.inl rfl | exact Or.inr (Or.inl rfl) | exact Or.inr (Or.inr rfl)) (hd : (x == ("__debug__" : Str)) = false := by decide)
  (hcd : (x == ("__classdict__" : Str)) = false := by decide) : PE X (.Name x pos) (tVar i) := pe_var hN hv hd hcd
end
theorem iteF {A B : Prop} (h : B) : if false = true then A else B := by
 rw [if_neg Bool.false_ne_true]
 exact h
theorem iteT {A B : Prop} (h : A) : if true = true then A else B := by
 rw [if_pos rfl]
 exact h
theorem iteNS {c A B : Prop} [Decidable c] (hc : c) (h : B) : if (!decide c) = true then A else B := by
 rw [decide_eq_true hc]
 exact iteF h
def Same (H H' : Hp) : Prop := ∀ b o, H b = some o → H' b = some o
theorem Same.refl (H : Hp) : Same H H := fun _ _ h => h
theorem Same.trans {H H1 H2 : Hp} (a : Same H H1) (b : Same H1 H2) : Same H H2 := fun c o h => b c o (a c o h)
theorem Same.free {H H' : Hp} (e : Same H H') {l : Addr} (h : H' l = Option.none) : H l = Option.none := by
 cases q : H l with
 | none => rfl
 | some o =>
  rw [e l o q] at h
  cases h
theorem Same.seq {K : W.Frag} {H H' : Hp} {a : Addr} {xs : List V} (e : Same H H') (h : SqL K H a xs) : SqL K H' a xs := by
 rcases h with (h | ⟨o, h⟩) | h
 ·exact .inl (.inl (e _ _ h))
 ·exact .inl (.inr ⟨o, e _ _ h⟩)
 ·exact .inr h
end L2
namespace L3
open PySem
def SeqIt (b : Bool) (h : Heap) (it l : Addr) (i : Nat) : Prop := if b = true then h.IsListIter it l i else h.IsTupleIter it l i
def SeqIs (b : Bool) (h : Heap) (l : Addr) (xs : Array Value) : Prop := if b = true then h.IsList l xs else h.IsTuple l xs
theorem SeqIt.ext {b : Bool} {h h' : Heap} {it l c : Addr} {i : Nat} (x : SeqIt b h it l i) (e : Heap.ExtBut c h h') (n : it ≠ c) : SeqIt b h' it l i := by
 cases b with
 | true => exact (show h.IsListIter it l i from x).extBut e n
 | false => exact (show h.IsTupleIter it l i from x).extBut e n
theorem SeqIs.ext {b : Bool} {h h' : Heap} {l c : Addr} {xs : Array Value} (x : SeqIs b h l xs) (e : Heap.ExtBut c h h') (n : l ≠ c) : SeqIs b h' l xs := by
 cases b with
 | true => exact (show h.IsList l xs from x).extBut e n
 | false => exact (show h.IsTuple l xs from x).extBut e n
theorem SeqIt.at {b : Bool} {h h' : Heap} {it l : Addr} {i : Nat} (x : SeqIt b h it l i) (e : ∀ o, h.get? it = some o → h'.get? it = some o) : SeqIt b h' it l i := by
 cases b with
 | true => exact (show h.IsListIter it l i from x).at e
 | false => obtain ⟨o, ho, r⟩ := (show h.IsTupleIter it l i from x); exact ⟨o, e o ho, r⟩
theorem SeqIs.at {b : Bool} {h h' : Heap} {l : Addr} {xs : Array Value} (x : SeqIs b h l xs) (e : ∀ o, h.get? l = some o → h'.get? l = some o) : SeqIs b h' l xs := by
 cases b with
 | true => exact (show h.IsList l xs from x).at e
 | false => obtain ⟨o, ho, r⟩ := (show h.IsTuple l xs from x); exact ⟨o, e o ho, r⟩
theorem SeqIt.obj {b : Bool} {h : Heap} {it l : Addr} {i : Nat} (x : SeqIt b h it l i) : ∃ o vs, h.get? it = some o ∧ o.data = .fields vs := by
 cases b with
 | true => obtain ⟨o, e, _, d⟩ := (show h.IsListIter it l i from x); exact ⟨o, _, e, d⟩
 | false => obtain ⟨o, e, _, d⟩ := (show h.IsTupleIter it l i from x); exact ⟨o, _, e, d⟩
section
variable {prog : Program} {w : World} {A : Around} {E : Value → Shared → Prop} {s : Shared}
theorem next_tup_item {it t : Addr} {i : Nat} {its : Array Value} {x : Value} {Q : Value → Shared → Prop} (a1 : s.heap.IsTupleIter it t i) (a2 : s.heap.IsTuple t its) (a3 : its[i]? = some x)
  (k : ∀ h', h'.IsTupleIter it t (i + 1) → Heap.SameBut it s.heap h' → Q x { s with heap := h' }) : wpAny (model prog w) A (Builtin.SmallTypes.nextOf (.ref it)) Q E s := by
 obtain ⟨o, e, c, d⟩ := id a1
 obtain ⟨ot, et, _, nt, dt⟩ := a2
 unfold Builtin.SmallTypes.nextOf
 refine wpAny_bind (wpAny_callSpecial?_slot (name := Str.ofString "__next__") a1.typeIs F.slot_tuple_iterator_next (wpAny_call_entry F.slot_tuple_iterator_next a1.typeIs F.entry_tuple_iterator_next ?_ (F.args_tuple_iterator_next_1 _)))
 show wpAny _ _ (field (.ref it) 0 >>= _) _ _ s
 refine wpAny_bind (wpAny_field e d (x := .ref t) rfl ?_)
 show wpAny _ _ (if (Value.ref t == Value.none) = true then _ else _) _ _ s
 rw [if_neg (by exact Bool.false_ne_true)]
 show wpAny _ _ (field (.ref it) 1 >>= _) _ _ s
 refine wpAny_bind (wpAny_field e d (x := .int i 0) rfl ?_)
 show wpAny _ _ (seqItems? (.ref t) >>= _) _ _ s
 refine wpAny_bind (wpAny_seqItems et dt ?_)
 simp only [Int.toNat_natCast, a3]
 refine wpAny_bind (wpAny_setField e d (by simp) (wpAny_pure ⟨x, rfl, wpAny_pure (k _ ⟨_, Heap.get?_update_self _ e (Obj.isFreed_of_fields (Obj.data_mapFields d _)), (Obj.cls_mapFields ..).trans c, ?_⟩ (Heap.SameBut.update ..))⟩))
 rw [Obj.data_mapFields d]
 simp [rawInt]
theorem next_tup_end {it t : Addr} {i : Nat} {its : Array Value} {Q : Value → Shared → Prop} (hh : A.handled = none) (a1 : s.heap.IsTupleIter it t i) (a2 : s.heap.IsTuple t its) (a3 : its[i]? = none)
  (k : ∀ h' x, Heap.ExtBut it s.heap h' → (∃ o, h'.get? x = some o ∧ o.cls = .type "StopIteration") → E (.ref x) { s with heap := h' }) : wpAny (model prog w) A (Builtin.SmallTypes.nextOf (.ref it)) Q E s := by
 obtain ⟨o, e, c, d⟩ := id a1
 obtain ⟨ot, et, _, nt, dt⟩ := a2
 unfold Builtin.SmallTypes.nextOf
 refine wpAny_bind (wpAny_callSpecial?_slot (name := Str.ofString "__next__") a1.typeIs F.slot_tuple_iterator_next (wpAny_call_entry F.slot_tuple_iterator_next a1.typeIs F.entry_tuple_iterator_next ?_ (F.args_tuple_iterator_next_1 _)))
 show wpAny _ _ (field (.ref it) 0 >>= _) _ _ s
 refine wpAny_bind (wpAny_field e d (x := .ref t) rfl ?_)
 show wpAny _ _ (if (Value.ref t == Value.none) = true then _ else _) _ _ s
 rw [if_neg (by exact Bool.false_ne_true)]
 show wpAny _ _ (field (.ref it) 1 >>= _) _ _ s
 refine wpAny_bind (wpAny_field e d (x := .int i 0) rfl ?_)
 show wpAny _ _ (seqItems? (.ref t) >>= _) _ _ s
 refine wpAny_bind (wpAny_seqItems et dt ?_)
 simp only [Int.toNat_natCast, a3]
 refine wpAny_bind (wpAny_rule (wpAny_bind (wpAny_setField e d (by simp) ?_)))
 show wpAny _ _ (newExc (.type "StopIteration") [] >>= _) _ _ _
 refine wpAny_bind ?_
 unfold newExc newTuple
 refine wpAny_bind (wpAny_newObj_type ?_ (by size_fits))
 refine wpAny_bind (m := firstArgMember _ _) (wpAny_of_eq (a := Value.none) (by first | rfl | (simp only [firstArgMember]; rfl)) ?_)
 refine wpAny_newObj_type ?_ (by size_fits)
 unfold raiseNew
 refine wpAny_bind (wpAny_handled ?_)
 first | rw [show A.in1.handled = none from hh] | rw [hh]
 exact wpAny_bind (wpAny_pure (wpAny_throw (k _ _ (((Heap.SameBut.update ..).extBut.push _).push _) ⟨_, Heap.get?_push_size _ rfl, rfl⟩)))
theorem next_item {b : Bool} {it l : Addr} {i : Nat} {xs : Array Value} {x : Value} {Q : Value → Shared → Prop} (a1 : SeqIt b s.heap it l i) (a2 : SeqIs b s.heap l xs) (a3 : xs[i]? = some x)
  (k : ∀ h', SeqIt b h' it l (i + 1) → Heap.SameBut it s.heap h' → Q x { s with heap := h' }) : wpAny (model prog w) A (Builtin.SmallTypes.nextOf (.ref it)) Q E s := by
 cases b with
 | true => exact wpAny_nextOf_list_item a1 a2 a3 k
 | false => exact next_tup_item a1 a2 a3 k
theorem next_end {b : Bool} {it l : Addr} {i : Nat} {xs : Array Value} {Q : Value → Shared → Prop} (hh : A.handled = none) (a1 : SeqIt b s.heap it l i) (a2 : SeqIs b s.heap l xs) (a3 : xs[i]? = none)
  (k : ∀ h' x, Heap.ExtBut it s.heap h' → (∃ o, h'.get? x = some o ∧ o.cls = .type "StopIteration") → E (.ref x) { s with heap := h' }) : wpAny (model prog w) A (Builtin.SmallTypes.nextOf (.ref it)) Q E s := by
 cases b with
 | true => exact wpAny_nextOf_list_end hh a1 a2 a3 k
 | false => exact next_tup_end hh a1 a2 a3 k
theorem zip_item {b1 b2 : Bool} {z TI TO i1 i2 l1 l2 : Addr} {k1 k2 : Nat} {xs ys : Array Value} {x y a b : Value} {Q : Option Value → Shared → Prop} (D : ZipApart z TI TO i1 i2 l1 l2)
  (hz : IsZip s.heap z TI TO .none) (hTI : IsPair s.heap TI (.ref i1) (.ref i2)) (hTO : IsPair s.heap TO a b) (n1 : SeqIt b1 s.heap i1 l1 k1) (n2 : SeqIt b2 s.heap i2 l2 k2) (m1 : SeqIs b1 s.heap l1 xs) (m2 : SeqIs b2 s.heap l2 ys)
  (hx : xs[k1]? = some x) (hy : ys[k2]? = some y)
  (hQ : ∀ h', IsZip h' z TI TO (rawInt s.heap.objs.size) → IsPair h' TO x y → SeqIt b1 h' i1 l1 (k1 + 1) → SeqIt b2 h' i2 l2 (k2 + 1) → IsPair h' s.heap.objs.size x y →
   (∀ c o, c ≠ z → c ≠ TO → c ≠ i1 → c ≠ i2 → s.heap.get? c = some o → h'.get? c = some o) → Q (some (.ref s.heap.objs.size)) { s with heap := h' }) : wpAny (model prog w) A (pyNext (.ref z)) Q E s := by
 have hT : s.TypeIs (.ref z) "zip" := ⟨_, hz, rfl⟩
 unfold pyNext
 refine wpAny_bind (wpAny_attempt (wpAny_callSpecial?_slot (name := Str.ofString "__next__") hT F.slot_zip_next (wpAny_call_entry F.slot_zip_next hT F.entry_zip_next ?_ (F.args_zip_next_1 _))))
 show wpAny _ _ (field (.ref z) 2 >>= _) _ _ s
 refine wpAny_bind (wpAny_field hz rfl (x := .bool false) rfl ?_)
 show wpAny _ _ (field (.ref z) 3 >>= _) _ _ s
 refine wpAny_bind (wpAny_field hz rfl (x := .ref TI) rfl (wpAny_bind (wpAny_seqItems hTI rfl ?_)))
 show wpAny _ _ (Builtin.SmallTypes.ownedTupleIsFree (.ref z) >>= _) _ _ s
 unfold Builtin.SmallTypes.ownedTupleIsFree
 refine wpAny_bind (wpAny_bind (wpAny_field hz rfl (x := .none) rfl (wpAny_pure ?_)))
 simp only [if_true]
 refine wpAny_bind (wpAny_rule (wpAny_bind (wpAny_field hz rfl (x := .ref TO) rfl (wpAny_bind (wpAny_setField_rec hz (by simp) fun g1 hz1 s1 => ?_)))))
 have hz1 : IsZip g1 z TI TO .ellipsis := hz1
 simp only [List.zipIdx_cons, List.zipIdx_nil, List.forIn_cons, List.forIn_nil]
 refine wpAny_bind (wpAny_bind (wpAny_bind (wpAny_onRaise ?_)))
 show wpAny _ _ (Builtin.SmallTypes.nextOf (.ref i1) >>= _) _ _ _
 refine wpAny_bind (next_item (n1.ext s1.extBut D.i1z) (m1.ext s1.extBut D.l1z) hx fun g2 n1' s2 => wpAny_pure ?_)
 have t2 : IsPair g2 TO a b := s2.extBut _ _ D.TOi1 (s1.extBut _ _ D.TOz hTO)
 refine wpAny_bind (wpAny_seqItems t2 rfl (wpAny_bind (wpAny_updateSeq_pair t2 fun g3 t3 s3 => wpAny_bind (wpAny_letGo (wpAny_pure ?_)))))
 have t3 : IsPair g3 TO x b := t3
 refine wpAny_bind (wpAny_bind (wpAny_onRaise ?_))
 show wpAny _ _ (Builtin.SmallTypes.nextOf (.ref i2) >>= _) _ _ _
 refine wpAny_bind (next_item (((n2.ext s1.extBut D.i2z).ext s2.extBut D.i12.symm).ext s3.extBut D.TOi2.symm) (((m2.ext s1.extBut D.l2z).ext s2.extBut D.l2i1).ext s3.extBut D.l2TO) hy fun g4 n2' s4 => wpAny_pure ?_)
 have t4 : IsPair g4 TO x b := s4.extBut _ _ D.TOi2 t3
 refine wpAny_bind (wpAny_seqItems t4 rfl (wpAny_bind (wpAny_updateSeq_pair t4 fun g5 t5 s5 => wpAny_bind (wpAny_letGo (wpAny_pure (wpAny_pure ?_))))))
 have t5 : IsPair g5 TO x y := t5
 refine wpAny_bind (wpAny_seqItems t5 rfl (wpAny_bind (wpAny_newTuple ?_)))
 have hsz : g5.objs.size = s.heap.objs.size := by rw [s5.1, s4.1, s3.1, s2.1, s1.1]
 have hz5 : IsZip g5 z TI TO .ellipsis := s5.extBut _ _ D.TOz.symm (s4.extBut _ _ D.i2z.symm (s3.extBut _ _ D.TOz.symm (s2.extBut _ _ D.i1z.symm hz1)))
 have k5 : ∀ c o, c ≠ z → c ≠ TO → c ≠ i1 → c ≠ i2 → s.heap.get? c = some o → g5.get? c = some o := fun c o c1 c2 c3 c4 e =>
  s5.extBut _ _ c2 (s4.extBut _ _ c4 (s3.extBut _ _ c2 (s2.extBut _ _ c3 (s1.extBut _ _ c1 e))))
 have n15 : SeqIt b1 g5 i1 l1 (k1 + 1) := ((n1'.ext s3.extBut D.TOi1.symm).ext s4.extBut D.i12).ext s5.extBut D.TOi1.symm
 have n25 : SeqIt b2 g5 i2 l2 (k2 + 1) := n2'.ext s5.extBut D.TOi2.symm
 have zlt : z < g5.objs.size := Heap.lt_size hz5
 show wpAny _ _ (Builtin.SmallTypes.ownedTupleHandOut (.ref z) (.ref g5.objs.size) >>= _) _ _ _
 unfold Builtin.SmallTypes.ownedTupleHandOut
 have hz6 : IsZip (g5.push { cls := .type "tuple", data := .seq #[x, y] }) z TI TO .ellipsis := Heap.get?_push_of_some _ hz5
 refine wpAny_bind (wpAny_bind (wpAny_setField_rec hz6 (by simp) fun g7 hz7 s7 => ?_))
 have hz7 : IsZip g7 z TI TO (rawInt g5.objs.size) := hz7
 refine wpAny_setField_rec hz7 (by simp) fun g8 hz8 s8 => ?_
 have hz8 : IsZip g8 z TI TO (rawInt g5.objs.size) := hz8
 have up : ∀ c o, c ≠ z → g5.get? c = some o → g8.get? c = some o := fun c o c1 e => s8.extBut _ _ c1 (s7.extBut _ _ c1 (Heap.get?_push_of_some _ e))
 have hT8 : IsPair g8 g5.objs.size x y := s8.extBut _ _ (Nat.ne_of_gt zlt) (s7.extBut _ _ (Nat.ne_of_gt zlt) (Heap.get?_push_size _ rfl))
 rw [hsz] at hz8 hT8
 refine wpAny_pure ⟨_, rfl, ?_⟩
 show wpAny _ _ (pure (some (Value.ref g5.objs.size)) : Sem (Option Value)) _ _ _
 rw [hsz]
 exact wpAny_pure (hQ g8 hz8 (up _ _ D.TOz t5) (n15.at fun o e => up _ o D.i1z e) (n25.at fun o e => up _ o D.i2z e) hT8 fun c o c1 c2 c3 c4 e => up c o c1 (k5 c o c1 c2 c3 c4 e))
theorem zip_end {b1 b2 : Bool} {z TI TO i1 i2 l1 l2 : Addr} {k1 k2 : Nat} {xs ys : Array Value} {a b : Value} {Q : Option Value → Shared → Prop} (hh : A.handled = none) (D : ZipApart z TI TO i1 i2 l1 l2)
  (hz : IsZip s.heap z TI TO .none) (hTI : IsPair s.heap TI (.ref i1) (.ref i2)) (hTO : IsPair s.heap TO a b) (n1 : SeqIt b1 s.heap i1 l1 k1) (n2 : SeqIt b2 s.heap i2 l2 k2) (m1 : SeqIs b1 s.heap l1 xs) (m2 : SeqIs b2 s.heap l2 ys)
  (hend : xs[k1]? = none ∨ ys[k2]? = none)
  (hQ : ∀ h', (∀ c o, c ≠ z → c ≠ TO → c ≠ i1 → c ≠ i2 → s.heap.get? c = some o → h'.get? c = some o) → Q none { s with heap := h' }) : wpAny (model prog w) A (pyNext (.ref z)) Q E s := by
 have hT : s.TypeIs (.ref z) "zip" := ⟨_, hz, rfl⟩
 have fin : ∀ (h' : Heap) (e : Addr), (∀ c o, c ≠ z → c ≠ TO → c ≠ i1 → c ≠ i2 → s.heap.get? c = some o → h'.get? c = some o) → (∃ o, h'.get? e = some o ∧ o.cls = .type "StopIteration") →
   wpAny (model prog w) A (do if ← isInstance (.ref e) (.type "StopIteration") then pure none else throw (.ref e)) Q E { s with heap := h' } := fun h' e hk ⟨o, ho, hc⟩ =>
  wpAny_bind (wpAny_isInstance (T := "StopIteration") (b := true) ⟨o, ho, hc⟩ isSubtype_stop (wpAny_pure (hQ _ hk)))
 unfold pyNext
 refine wpAny_bind (wpAny_attempt (wpAny_callSpecial?_slot (name := Str.ofString "__next__") hT F.slot_zip_next (wpAny_call_entry F.slot_zip_next hT F.entry_zip_next ?_ (F.args_zip_next_1 _))))
 show wpAny _ _ (field (.ref z) 2 >>= _) _ _ s
 refine wpAny_bind (wpAny_field hz rfl (x := .bool false) rfl ?_)
 show wpAny _ _ (field (.ref z) 3 >>= _) _ _ s
 refine wpAny_bind (wpAny_field hz rfl (x := .ref TI) rfl (wpAny_bind (wpAny_seqItems hTI rfl ?_)))
 show wpAny _ _ (Builtin.SmallTypes.ownedTupleIsFree (.ref z) >>= _) _ _ s
 unfold Builtin.SmallTypes.ownedTupleIsFree
 refine wpAny_bind (wpAny_bind (wpAny_field hz rfl (x := .none) rfl (wpAny_pure ?_)))
 simp only [if_true]
 refine wpAny_bind (wpAny_rule (wpAny_bind (wpAny_field hz rfl (x := .ref TO) rfl (wpAny_bind (wpAny_setField_rec hz (by simp) fun g1 hz1 s1 => ?_)))))
 have hz1 : IsZip g1 z TI TO .ellipsis := hz1
 simp only [List.zipIdx_cons, List.zipIdx_nil, List.forIn_cons, List.forIn_nil]
 refine wpAny_bind (wpAny_bind (wpAny_bind (wpAny_onRaise ?_)))
 show wpAny _ _ (Builtin.SmallTypes.nextOf (.ref i1) >>= _) _ _ _
 cases hx : xs[k1]? with
 | none =>
  refine wpAny_bind (next_end hh (n1.ext s1.extBut D.i1z) (m1.ext s1.extBut D.l1z) hx fun g2 e s2 he => ?_)
  obtain ⟨oe, hoe, hce⟩ := he
  have hz2 : IsZip g2 z TI TO .ellipsis := s2 _ _ D.i1z.symm hz1
  have hez : e ≠ z := fun q => by subst q; rw [hz2] at hoe; cases hoe; simp at hce
  exact wpAny_setField_rec hz2 (by simp) fun g3 _ s3 => fin g3 e (fun c o c1 _ c3 _ q => s3.extBut _ _ c1 (s2 _ _ c3 (s1.extBut _ _ c1 q))) ⟨oe, s3.extBut _ _ hez hoe, hce⟩
 | some x =>
  have hy : ys[k2]? = none := by
   rcases hend with q | q
   ·rw [hx] at q; cases q
   ·exact q
  refine wpAny_bind (next_item (n1.ext s1.extBut D.i1z) (m1.ext s1.extBut D.l1z) hx fun g2 n1' s2 => wpAny_pure ?_)
  have t2 : IsPair g2 TO a b := s2.extBut _ _ D.TOi1 (s1.extBut _ _ D.TOz hTO)
  refine wpAny_bind (wpAny_seqItems t2 rfl (wpAny_bind (wpAny_updateSeq_pair t2 fun g3 t3 s3 => wpAny_bind (wpAny_letGo (wpAny_pure ?_)))))
  refine wpAny_bind (wpAny_bind (wpAny_onRaise ?_))
  show wpAny _ _ (Builtin.SmallTypes.nextOf (.ref i2) >>= _) _ _ _
  refine wpAny_bind (next_end hh (((n2.ext s1.extBut D.i2z).ext s2.extBut D.i12.symm).ext s3.extBut D.TOi2.symm) (((m2.ext s1.extBut D.l2z).ext s2.extBut D.l2i1).ext s3.extBut D.l2TO) hy fun g4 e s4 he => ?_)
  obtain ⟨oe, hoe, hce⟩ := he
  have hz4 : IsZip g4 z TI TO .ellipsis := s4 _ _ D.i2z.symm (s3.extBut _ _ D.TOz.symm (s2.extBut _ _ D.i1z.symm hz1))
  have hez : e ≠ z := fun q => by subst q; rw [hz4] at hoe; cases hoe; simp at hce
  exact wpAny_setField_rec hz4 (by simp) fun g5 _ s5 => fin g5 e (fun c o c1 c2 c3 c4 q => s5.extBut _ _ c1 (s4 _ _ c4 (s3.extBut _ _ c2 (s2.extBut _ _ c3 (s1.extBut _ _ c1 q))))) ⟨oe, s5.extBut _ _ hez hoe, hce⟩
abbrev itObj (b : Bool) (l : Addr) : Obj := { cls := .type (if b = true then "list_iterator" else "tuple_iterator"), data := .fields #[.ref l, .int 0 0] }
theorem iter_obj {b : Bool} {l : Addr} {xs : Array Value} {Q : Value → Shared → Prop} (m : SeqIs b s.heap l xs) (k : Q (.ref s.heap.objs.size) { s with heap := s.heap.push (itObj b l) }) : wpAny (model prog w) A (pyIter (.ref l)) Q E s := by
 cases b with
 | true => exact wpAny_pyIter_list m k
 | false => exact wpAny_pyIter_tuple m k
theorem itObj_at {b : Bool} {h : Heap} {a l : Addr} (e : h.get? a = some (itObj b l)) : SeqIt b h a l 0 := by
 cases b with
 | true => exact ⟨_, e, rfl, rfl⟩
 | false => exact ⟨_, e, rfl, rfl⟩
end
abbrev zp1 (b1 : Bool) (h : Heap) (l1 : Addr) : Heap := h.push (itObj b1 l1)
abbrev zp2 (b1 b2 : Bool) (h : Heap) (l1 l2 : Addr) : Heap := (zp1 b1 h l1).push (itObj b2 l2)
abbrev zp3 (b1 b2 : Bool) (h : Heap) (l1 l2 : Addr) : Heap := (zp2 b1 b2 h l1 l2).push { cls := .type "tuple", data := .seq #[.ref h.objs.size, .ref (zp1 b1 h l1).objs.size] }
abbrev zp4 (b1 b2 : Bool) (h : Heap) (l1 l2 : Addr) : Heap := (zp3 b1 b2 h l1 l2).push { cls := .type "tuple", data := .seq #[.none, .none] }
abbrev zp5 (b1 b2 : Bool) (h : Heap) (l1 l2 : Addr) : Heap := (zp4 b1 b2 h l1 l2).push { cls := .type "zip", data := .fields #[.none, .bool false, .bool false, .ref (zp2 b1 b2 h l1 l2).objs.size, .ref (zp3 b1 b2 h l1 l2).objs.size] }
theorem SeqIs.push {b : Bool} {h : Heap} {l : Addr} {xs : Array Value} (x : SeqIs b h l xs) (o : Obj) : SeqIs b (h.push o) l xs := x.at fun _ e => Heap.get?_push_of_some _ e
theorem zip_new (b1 b2 : Bool) (l1 l2 : Addr) (xs ys : Array Value) :
  Meets (Builtin.«zip.__new__» ⟨[.type "zip", .ref l1, .ref l2], []⟩) (fun _ R s => SeqIs b1 s.heap l1 xs ∧ SeqIs b2 s.heap l2 ys ∧ R (.ok (.ret (.ref (zp4 b1 b2 s.heap l1 l2).objs.size))) { s with heap := zp5 b1 b2 s.heap l1 l2 }) :=
 .of_wp fun prog w A R s h => by
  obtain ⟨hp, g, d, tk, os⟩ := s
  obtain ⟨m1, m2, h⟩ := h
  have hsub := sub_zip
  have M1 : SeqIs b1 (Shared.heap ⟨hp, g, d, tk, os⟩) l1 xs := m1
  have M2 : SeqIs b2 (Shared.heap ⟨hp.push (itObj b1 l1), g, d, tk, os⟩) l2 ys := SeqIs.push m2 _
  wp_walk using iter_obj M1, iter_obj M2
  exact ⟨_, rfl, h⟩
section
variable {prog : Program} {w : World} {A : Around} {E : Value → Shared → Prop} {s : Shared}
theorem zip_call {b1 b2 : Bool} {l1 l2 : Addr} {xs ys : Array Value} {Q : Value → Shared → Prop} (m1 : SeqIs b1 s.heap l1 xs) (m2 : SeqIs b2 s.heap l2 ys)
  (k : ∀ h', IsZip h' (s.heap.objs.size + 4) (s.heap.objs.size + 2) (s.heap.objs.size + 3) .none → IsPair h' (s.heap.objs.size + 2) (.ref s.heap.objs.size) (.ref (s.heap.objs.size + 1)) →
   IsPair h' (s.heap.objs.size + 3) .none .none → SeqIt b1 h' s.heap.objs.size l1 0 → SeqIt b2 h' (s.heap.objs.size + 1) l2 0 → (∀ c o, s.heap.get? c = some o → h'.get? c = some o) → Q (.ref (s.heap.objs.size + 4)) { s with heap := h' }) :
  wpAny (model prog w) A (call (.type "zip") [.ref l1, .ref l2]) Q E s := by
 refine callType_new F.called_zip (by decide) (F.typeCall_zip_2 _ _) (F.newCall_zip_2 _ _) (fun obj => F.args_object_init_3 obj _ _) F.entry_zip_new (zip_new b1 b2 l1 l2 xs ys) ⟨m1, m2, ?_⟩
 have z1 : (zp1 b1 s.heap l1).objs.size = s.heap.objs.size + 1 := Heap.size_push ..
 have z2 : (zp2 b1 b2 s.heap l1 l2).objs.size = s.heap.objs.size + 2 := by rw [Heap.size_push, z1]
 have z3 : (zp3 b1 b2 s.heap l1 l2).objs.size = s.heap.objs.size + 3 := by rw [Heap.size_push, z2]
 have z4 : (zp4 b1 b2 s.heap l1 l2).objs.size = s.heap.objs.size + 4 := by rw [Heap.size_push, z3]
 have q5 : (zp5 b1 b2 s.heap l1 l2).get? (zp4 b1 b2 s.heap l1 l2).objs.size = some _ := Heap.get?_push_size _ rfl
 have q4 : (zp5 b1 b2 s.heap l1 l2).get? (zp3 b1 b2 s.heap l1 l2).objs.size = some _ := Heap.get?_push_of_some _ (Heap.get?_push_size _ rfl)
 have q3 : (zp5 b1 b2 s.heap l1 l2).get? (zp2 b1 b2 s.heap l1 l2).objs.size = some _ := Heap.get?_push_of_some _ (Heap.get?_push_of_some _ (Heap.get?_push_size _ rfl))
 have q2 : (zp5 b1 b2 s.heap l1 l2).get? (zp1 b1 s.heap l1).objs.size = some _ := Heap.get?_push_of_some _ (Heap.get?_push_of_some _ (Heap.get?_push_of_some _ (Heap.get?_push_size _ rfl)))
 have q1 : (zp5 b1 b2 s.heap l1 l2).get? s.heap.objs.size = some _ := Heap.get?_push_of_some _ (Heap.get?_push_of_some _ (Heap.get?_push_of_some _ (Heap.get?_push_of_some _ (Heap.get?_push_size _ rfl))))
 show _ ∧ _
 rw [z2, z3, z4] at q5
 rw [z1, z2] at q3
 rw [z3] at q4
 rw [z1] at q2
 rw [z4]
 exact ⟨⟨_, q5, rfl⟩, k _ q5 q3 q4 (itObj_at q1) (itObj_at q2) fun c o x => Heap.get?_push_of_some _ (Heap.get?_push_of_some _ (Heap.get?_push_of_some _ (Heap.get?_push_of_some _ (Heap.get?_push_of_some _ x))))⟩
end
end L3
namespace L3
open PySem
open AutoSeq1 (wpAny_loadPart')
theorem enum_newT (l : Addr) (its : Array Value) (n : Nat) (dct : Option Addr) (sl : Array (Option Value)) :
  Meets (Builtin.«enumerate.__new__» ⟨[.type "enumerate", .ref l], []⟩) (fun _ R s => s.heap.get? l = some { cls := .type "tuple", dict := dct, data := .seq its n, slots := sl } ∧
   R (.ok (.ret (.ref (s.heap.push (itObj false l)).objs.size))) { s with heap := (s.heap.push (itObj false l)).push { cls := .type "enumerate", data := .fields #[.none, .bool false, .ref s.heap.objs.size, rawInt 0, .none, .none] } }) :=
 .of_wp fun prog w A R s h => by
  obtain ⟨hp, g, d, tk, os⟩ := s
  obtain ⟨q, h⟩ := h
  have hsub := sub_enumerate
  have M : SeqIs false (Shared.heap ⟨hp, g, d, tk, os⟩) l its := ⟨_, q, rfl, n, rfl⟩
  wp_walk using wpAny_loadPart' q
  refine wpAny_stack_any fun st => wpAny_pure ?_
  split
  ·rename_i c _ _ _ _ _
   cases (c == Value.type "enumerate") <;> (wp_walk using wpAny_loadPart' q, iter_obj M; exact ⟨_, rfl, h⟩)
  ·wp_walk using wpAny_loadPart' q, iter_obj M
   exact ⟨_, rfl, h⟩
section
variable {prog : Program} {w : World} {A : Around} {E : Value → Shared → Prop} {s : Shared}
theorem enum_call {b : Bool} {l : Addr} {xs : Array Value} {Q : Value → Shared → Prop} (m : SeqIs b s.heap l xs)
  (k : ∀ h', IsEnum h' (s.heap.objs.size + 1) s.heap.objs.size 0 .none → SeqIt b h' s.heap.objs.size l 0 → (∀ c o, s.heap.get? c = some o → h'.get? c = some o) → Q (.ref (s.heap.objs.size + 1)) { s with heap := h' }) :
  wpAny (model prog w) A (call (.type "enumerate") [.ref l]) Q E s := by
 cases b with
 | true => exact call_enumerate_list (show s.heap.IsList l xs from m) fun h' a1 a2 _ a4 => k h' a1 a2 a4
 | false =>
  obtain ⟨⟨c, dct, dt, sl⟩, hl, hc, n, hd⟩ := (show s.heap.IsTuple l xs from m)
  have hc : c = .type "tuple" := hc
  have hd : dt = .seq xs n := hd
  subst hc hd
  refine callType_new F.called_enumerate (by decide) (F.typeCall_enumerate_1 _) (F.newCall_enumerate_1 _) (fun obj => F.args_object_init_2 obj _) F.entry_enumerate_new (enum_newT l xs n dct sl) ⟨hl, ?_⟩
  have hz : (s.heap.push (itObj false l)).objs.size = s.heap.objs.size + 1 := Heap.size_push ..
  have he : IsEnum ((s.heap.push (itObj false l)).push { cls := .type "enumerate", data := .fields #[.none, .bool false, .ref s.heap.objs.size, rawInt 0, .none, .none] }) (s.heap.objs.size + 1) s.heap.objs.size 0 .none := by
   have q := Heap.get?_push_size (s.heap.push (itObj false l)) (o := { cls := .type "enumerate", data := .fields #[.none, .bool false, .ref s.heap.objs.size, rawInt 0, .none, .none] }) rfl
   rw [hz] at q
   exact q
  show _ ∧ _
  rw [hz]
  exact ⟨⟨_, he, rfl⟩, k _ he ⟨_, Heap.get?_push_of_some _ (Heap.get?_push_size _ rfl), rfl, rfl⟩ fun c o x => Heap.get?_push_of_some _ (Heap.get?_push_of_some _ x)⟩
theorem draws_seq {b : Bool} (hh : A.handled = none) (it l : Addr) (hne : l ≠ it) (xs : Array Value) : Draws prog w A it [it, l] xs.size (fun i v => xs[i]? = some v) (fun i h => SeqIt b h it l i ∧ SeqIs b h l xs) where
 live := fun _ _ st => let ⟨o, _, e, _⟩ := st.1.obj; ⟨o, e⟩
 frame := fun _ _ _ st hk => ⟨st.1.at fun o e => hk it (by simp) o e, st.2.at fun o e => hk l (by simp) o e⟩
 item := fun i s Q E hi st hQ => next_item st.1 st.2 (x := xs[i]) (by simp [hi]) fun h' n' sb => hQ _ h' s.toks (by simp [hi]) ⟨n', st.2.ext sb.extBut hne⟩ sb
 done := fun s Q E st hE => next_end hh st.1 st.2 (by simp) hE
end
end L3
namespace L3
open PySem
def tests (ifs : List Expr) (env : Env) : Sem Bool :=
 forIn ifs true fun c r => if r = true then (do let ok ← isTrue c env (eval c env); pure (ForInStep.yield ok)) else pure (ForInStep.yield r)
section
variable {prog : Program} {w : World} {A : Around} {R : Result → Shared → Prop} {s : Shared}
theorem comp_loop {elt tg iter : Expr} {ifs : List Expr} {sc : Scope} {pos : Pos} {it acc : Value} {env : Env} (J : Nat → Shared → Prop) {EE : Value → Shared → Prop}
  (hEE : ∀ e s', EE e s' → notedBy (model prog w) A env (fun e s' => R (.error e) s') e s')
  (turn : ∀ n s, J n s → wpAny (model prog w) A (pyNext it) (fun r s₁ => (r = none → R (.ok .next) s₁) ∧ ∀ v, r = some v →
   wpAny (model prog w) A (letOwnedTupleGo tg it v) (fun _ s₂ => wpAny (model prog w) A (assign tg env v) (fun _ s₃ => wpAny (model prog w) A (tests ifs env) (fun ok s₄ =>
    (ok = true → wpAny (model prog w) A (eval elt env) (fun x s₅ => wpAny (model prog w) A (call (.builtin "list.append") [acc, x]) (fun _ s₆ => ∃ m, m < n ∧ J m s₆) EE s₅) EE s₄) ∧
    (ok = false → ∃ m, m < n ∧ J m s₄)) EE s₃) EE s₂) EE s₁) EE s)
  (n : Nat) (h : J n s) : codeAny (model prog w) A (.compLoop (.ListComp elt [⟨tg, iter, ifs, 0⟩] sc pos) 0 it acc env) R s := by
 refine codeAny_loop rfl J (fun n s hJ => ?_) n h
 show wpAny _ A ((compTurn (.ListComp elt [⟨tg, iter, ifs, 0⟩] sc pos) 0 it acc env).onRaise _) _ _ s
 refine wpAny_noted (wpAny_mono (E := EE) ?_ (fun _ _ q => q) fun e s' q => hEE e s' q)
 rw [compTurn_list]
 refine wpAny_bind (wpAny_standAt (wpAny_bind (wpAny_mono (turn n s hJ) (fun r s₁ h₁ => ?_) fun _ _ q => q)))
 cases r with
 | none => exact wpAny_pure (h₁.1 rfl)
 | some v =>
  refine wpAny_bind (wpAny_mono (h₁.2 v rfl) (fun _ s₂ h₂ => ?_) fun _ _ q => q)
  refine wpAny_bind (wpAny_mono h₂ (fun _ s₃ h₃ => ?_) fun _ _ q => q)
  refine wpAny_bind (wpAny_mono h₃ (fun ok s₄ h₄ => ?_) fun _ _ q => q)
  cases ok with
  | false => exact wpAny_pure ⟨rfl, h₄.2 rfl⟩
  | true =>
   refine wpAny_bind (wpAny_bind (wpAny_mono (h₄.1 rfl) (fun x s₅ h₅ => ?_) fun _ _ q => q))
   exact wpAny_bind (wpAny_mono h₅ (fun _ s₆ h₆ => wpAny_pure (wpAny_pure ⟨rfl, h₆⟩)) fun _ _ q => q)
theorem tests_nil {env : Env} {Q : Bool → Shared → Prop} {E : Value → Shared → Prop} (h : Q true s) : wpAny (model prog w) A (tests [] env) Q E s := wpAny_pure h
theorem tests_one {c : Expr} {env : Env} {Q : Bool → Shared → Prop} {E : Value → Shared → Prop} (h : wpAny (model prog w) A (isTrue c env (eval c env)) Q E s) : wpAny (model prog w) A (tests [c] env) Q E s := by
 unfold tests
 rw [List.forIn_cons]
 exact wpAny_bind (wpAny_bind (wpAny_mono h (fun ok s' q => wpAny_pure (wpAny_pure q)) fun _ _ q => q))
def clOf (cells : List (Str × Addr)) : List (Str × NameKind) → List (Str × Addr) → List (Str × Addr)
 | [], acc => acc
 | (n, k) :: r, acc => if k == .free then clOf cells r (match cells.lookup n with | some c => (n, c) :: acc | none => acc) else clOf cells r acc
theorem closure_eq {env : Env} : ∀ (names : List (Str × NameKind)) (acc : List (Str × Addr)), (∀ p ∈ names, p.2 = .free → ∃ c, env.cells.lookup p.1 = some c) →
  (forIn names acc fun (x : Str × NameKind) (cs : List (Str × Addr)) => match x with
   | (name, kind) => if (kind == NameKind.free) = true then (do let c ← cellOf env name; pure (ForInStep.yield ((name, c) :: cs))) else (pure (ForInStep.yield cs) : Sem (ForInStep (List (Str × Addr))))) = pure (clOf env.cells names acc)
 | [], acc, _ => rfl
 | (n, k) :: r, acc, h => by
  have ih := fun acc => closure_eq r acc fun p hp => h p (List.mem_cons_of_mem _ hp)
  rw [List.forIn_cons]
  by_cases hk : (k == NameKind.free) = true
  ·obtain ⟨c, hc⟩ := h (n, k) List.mem_cons_self (by simpa using hk)
   have e : cellOf env n = pure c := by unfold cellOf; rw [hc]
   dsimp only
   rw [if_pos hk, e]
   unfold clOf
   rw [if_pos hk, hc]
   exact ih _
  ·dsimp only
   rw [if_neg hk]
   unfold clOf
   rw [if_neg hk]
   exact ih _
theorem closure_of {env : Env} {sc : Scope} (h : ∀ p ∈ sc.names, p.2 = .free → ∃ c, env.cells.lookup p.1 = some c) : closureFor sc env = pure (clOf env.cells sc.names []) := by
 unfold closureFor
 have e := closure_eq (env := env) sc.names [] h
 simp only [e]
 rfl
theorem clOf_sub {cells : List (Str × Addr)} : ∀ (names : List (Str × NameKind)) (acc : List (Str × Addr)), (∀ x c, acc.lookup x = some c → cells.lookup x = some c) → ∀ x c, (clOf cells names acc).lookup x = some c → cells.lookup x = some c
 | [], acc, h, x, c, e => h x c e
 | (n, k) :: r, acc, h, x, c, e => by
  unfold clOf at e
  split at e
  ·refine clOf_sub r _ (fun y d q => ?_) x c e
   split at q
   ·rename_i c' hc'
    by_cases hy : y = n
    ·subst hy
     rw [List.lookup_cons_self] at q
     cases q
     exact hc'
    ·have hb : (y == n) = false := beq_eq_false_iff_ne.mpr hy
     rw [List.lookup_cons, hb] at q
     exact h y d q
   ·exact h y d q
  ·exact clOf_sub r acc h x c e
theorem clOf_keep {cells : List (Str × Addr)} : ∀ (names : List (Str × NameKind)) (acc : List (Str × Addr)) (x : Str), (∃ c, acc.lookup x = some c) → ∃ c, (clOf cells names acc).lookup x = some c
 | [], acc, x, h => h
 | (n, k) :: r, acc, x, h => by
  unfold clOf
  split
  ·refine clOf_keep r _ x ?_
   split
   ·rename_i c' hc'
    by_cases hy : x = n
    ·subst hy
     exact ⟨c', List.lookup_cons_self⟩
    ·have hb : (x == n) = false := beq_eq_false_iff_ne.mpr hy
     rw [List.lookup_cons, hb]
     exact h
   ·exact h
  ·exact clOf_keep r acc x h
theorem clOf_has {cells : List (Str × Addr)} : ∀ (names : List (Str × NameKind)) (acc : List (Str × Addr)) (x : Str), (x, NameKind.free) ∈ names → (∃ c, cells.lookup x = some c) → ∃ c, (clOf cells names acc).lookup x = some c
 | [], acc, x, h, _ => by cases h
 | (n, k) :: r, acc, x, h, hc => by
  unfold clOf
  rcases List.mem_cons.mp h with e | e
  ·cases e
   obtain ⟨c, hc⟩ := hc
   rw [if_pos (beq_self_eq_true _), hc]
   exact clOf_keep r _ n ⟨c, List.lookup_cons_self⟩
  ·split
   ·exact clOf_has r _ x e hc
   ·exact clOf_has r acc x e hc
end
end L3
namespace L2
open PySem PySem.Spec PyProof.Rows L3
def cxC (X : Cx) (sc : Scope) (N : List Str) (s : Shared) (H : Hp) (ex : List Addr) (C : Addr) : Cx :=
 {X with N := N, s₀ := s, H₀ := H, env := compEnvC sc (clOf X.env.cells sc.names []) C X.env, outer := X.stack, ex := ex, fn := fun _ => false, pn := [], xe := fun _ _ => False }
structure ScC (X : Cx) (sc : Scope) (N : List Str) (idx : List Nat) : Prop where
 kind : sc.kind = .function
 nocell : ∀ y ∈ sc.names, y.2 ≠ .cell
 locs : ∀ y ∈ sc.names, y.2 = .local → sc.names.lookup y.1 = some .local
 frees : ∀ y ∈ sc.names, y.2 = .free → X.env.scope.names.lookup y.1 = some .cell
 le : idx.length ≤ N.length
 cap : ∀ (k i : Nat) (x : Str), idx[k]? = some i → N[k]? = some x → X.N[i]? = some x ∧ sc.names.lookup x = some .free
def capS (idx : List Nat) (n : Nat) (σ : St) : St := idx.map (fun i => (σ[i]?).join) ++ List.replicate (n - idx.length) none
theorem capS_len {idx : List Nat} {n : Nat} {σ : St} (h : idx.length ≤ n) : (capS idx n σ).length = n := by
 unfold capS
 rw [List.length_append, List.length_map, List.length_replicate]
 omega
theorem capS_get {idx : List Nat} {n k : Nat} {σ : St} {v : V} (h : (capS idx n σ)[k]? = some (some v)) : ∃ i, idx[k]? = some i ∧ σ[i]? = some (some v) := by
 unfold capS at h
 by_cases hk : k < idx.length
 ·rw [List.getElem?_append_left (by simpa using hk), List.getElem?_map] at h
  cases e : idx[k]? with
  | none => rw [e] at h; cases h
  | some i =>
   rw [e] at h
   have h' : (σ[i]?).join = some v := Option.some.inj h
   refine ⟨i, rfl, ?_⟩
   cases e2 : σ[i]? with
   | none => rw [e2] at h'; cases h'
   | some o => rw [e2] at h'; rw [show o = some v from h']
 ·rw [List.getElem?_append_right (by simpa using hk), List.getElem?_replicate] at h
  split at h
  ·cases h
  ·cases h
def rl (env : Env) (p : Str × NameKind) : Str × NameKind := if (p.2 == NameKind.free && env.scope.kind == .function && env.kindOf p.1 == some .cell) = true then (p.1, NameKind.cell) else p
theorem rl_hit {env : Env} {n : Str} {k : NameKind} (h : (k == NameKind.free && env.scope.kind == .function && env.kindOf n == some .cell) = true) : rl env (n, k) = (n, .cell) := if_pos h
theorem rl_miss {env : Env} {n : Str} {k : NameKind} (h : ¬ (k == NameKind.free && env.scope.kind == .function && env.kindOf n == some .cell) = true) : rl env (n, k) = (n, k) := if_neg h
theorem relabel_free {env : Env} (hf : env.scope.kind = .function) : ∀ {names : List (Str × NameKind)} {x : Str}, names.lookup x = some .free → env.kindOf x = some .cell → (names.map (rl env)).lookup x = some .cell
 | [], _, h, _ => by simp at h
 | (n, k) :: r, x, h, hc => by
  have ih := @relabel_free env hf r x
  rw [List.map_cons]
  by_cases hx : x = n
  ·subst hx
   rw [List.lookup_cons_self] at h
   cases h
   rw [rl_hit (by rw [hf, hc]; decide), List.lookup_cons_self]
  ·have hb : (x == n) = false := beq_eq_false_iff_ne.mpr hx
   rw [List.lookup_cons, hb] at h
   have e := ih h hc
   by_cases q : (k == NameKind.free && env.scope.kind == .function && env.kindOf n == some .cell) = true
   ·rw [rl_hit q, List.lookup_cons, hb]; exact e
   ·rw [rl_miss q, List.lookup_cons, hb]; exact e
theorem relabel_back {env : Env} : ∀ {names : List (Str × NameKind)} {x : Str} {kd : NameKind}, (names.map (rl env)).lookup x = some kd → (x, kd) ∈ names ∨ (x, NameKind.free) ∈ names
 | [], _, _, h => by simp at h
 | (n, k) :: r, x, kd, h => by
  have ih := @relabel_back env r x kd
  rw [List.map_cons] at h
  by_cases q : (k == NameKind.free && env.scope.kind == .function && env.kindOf n == some .cell) = true
  ·rw [rl_hit q] at h
   by_cases hx : x = n
   ·subst hx
    have hk : k = .free := by
     rw [Bool.and_eq_true, Bool.and_eq_true] at q
     exact eq_of_beq q.1.1
    subst hk
    exact .inr List.mem_cons_self
   ·have hb : (x == n) = false := beq_eq_false_iff_ne.mpr hx
    rw [List.lookup_cons, hb] at h
    exact (ih h).elim (fun e => .inl (List.mem_cons_of_mem _ e)) fun e => .inr (List.mem_cons_of_mem _ e)
  ·rw [rl_miss q] at h
   by_cases hx : x = n
   ·subst hx
    rw [List.lookup_cons_self] at h
    cases h
    exact .inl List.mem_cons_self
   ·have hb : (x == n) = false := beq_eq_false_iff_ne.mpr hx
    rw [List.lookup_cons, hb] at h
    exact (ih h).elim (fun e => .inl (List.mem_cons_of_mem _ e)) fun e => .inr (List.mem_cons_of_mem _ e)
theorem Inv.adopt {X : Cx} {pins : List (Addr × Obj)} {σ : St} {H : Hp} {s : Shared} {a : Addr} {o : HO} (I : Inv X pins σ H s) (hn : H a = none) (ya : X.s₀.heap.objs.size ≤ a) (hL : a ≠ X.env.locals)
  (hc : ∀ x c, X.env.cells.lookup x = some c → c ≠ a) (hp : ∀ p ∈ X.pn ++ pins, p.1 ≠ a) (new : ObjOk X.prog X.w (upd H a o) s.heap a o) : Inv X pins σ (upd H a o) s := by
 have ne : ∀ b u, H b = some u → b ≠ a := fun b u e => ne_of_none e hn
 refine ⟨I.ok, I.os, I.bare, ⟨I.base.keep, I.base.slot, fun b u q n hx => ?_, I.base.there, fun b xs q => ?_, fun b u xs q => ?_, fun b ps q => ?_⟩, I.loc, I.cell, ?_, fun x c e => ?_, fun p hq => ?_, fun b u q => ?_, I.len⟩
 ·rw [upd_ne (Nat.ne_of_lt (Nat.lt_of_lt_of_le (Heap.lt_size q) ya))]
  exact I.base.free b u q n hx
 ·have e := I.base.tups b xs q
  rw [upd_ne (ne b _ e)]; exact e
 ·have e := I.base.frzs b u xs q
  rw [upd_ne (ne b _ e)]; exact e
 ·obtain ⟨m, e⟩ := I.base.tbls b ps q
  exact ⟨m, by rw [upd_ne (ne b _ e)]; exact e⟩
 ·rw [upd_ne (Ne.symm hL)]; exact I.free
 ·rw [upd_ne (hc x c e)]; exact I.freeC x c e
 ·obtain ⟨e1, e2, e3⟩ := I.pin p hq
  exact ⟨e1, by rw [upd_ne (hp p hq)]; exact e2, e3⟩
 ·by_cases hb : b = a
  ·subst hb; rw [upd_same] at q; cases q; exact new
  ·rw [upd_ne hb] at q
   exact (I.hok b u q).stay (fun _ _ _ z => z) (fun c z => by rw [upd_ne (ne c _ z)]; exact z) fun c xs z => by rw [upd_ne (ne c _ z)]; exact z
section
variable {X : Cx} {pins : List (Addr × Obj)} {σ : St} {H : Hp} {s : Shared} {sc : Scope} {N : List Str} {idx : List Nat} {fp : List Addr}
abbrev nilObj : Obj := { cls := .type "list", data := .seq ([] : List Value).toArray }
abbrev withAcc (s : Shared) : Shared := { s with heap := s.heap.push nilObj }
theorem young_fp (I : Inv X pins σ H s) {b : Addr} (h : FpOk X pins H b) : X.base.get? b = none := by
 cases e : X.base.get? b with
 | none => rfl
 | some o =>
  rcases h.2.2.2.1 with z | z
  ·exact absurd z (I.ok.noex b o e)
  ·exact absurd (Nat.lt_of_lt_of_le (Heap.lt_size e) (Nat.le_trans I.ok.bsz z)) (Nat.lt_irrefl _)
theorem comp_inv (I : Inv X pins σ H s) (S : ScC X sc N idx) (hf : ∀ b ∈ fp, FpOk X pins H b) (ho : ∀ b ∈ fp, ∃ o, s.heap.get? b = some o) {h' : Heap} {m : Str → Option Value} {t : Nat}
  (hns : h'.Ns (s.heap.push nilObj).objs.size m) (hk : ∀ b o, (s.heap.push nilObj).get? b = some o → h'.get? b = some o) :
  Inv (cxC X sc N (withAcc s) H (s.heap.objs.size :: fp) (s.heap.push nilObj).objs.size) [] (capS idx N.length σ) H { withAcc s with heap := h', toks := t } := by
 have I3 : Inv X pins σ H (withAcc s) := I.kept (t' := s.toks) fun b o e => Heap.get?_push_of_some _ e
 have hC : (s.heap.push nilObj).objs.size = s.heap.objs.size + 1 := Heap.size_push _ _
 have cl_sub : ∀ x c, (clOf X.env.cells sc.names []).lookup x = some c → X.env.cells.lookup x = some c := clOf_sub sc.names [] (fun x c e => by cases e)
 have clt : ∀ x c, (clOf X.env.cells sc.names []).lookup x = some c → c < s.heap.objs.size := fun x c e => by
  obtain ⟨v, z⟩ := I.cell x c (cl_sub x c e)
  exact z.lt
 have flt : ∀ b ∈ fp, b < s.heap.objs.size := fun b hb => by
  obtain ⟨o, e⟩ := ho b hb
  exact Heap.lt_size e
 have back : ∀ x, ((relabel sc X.env).names.lookup x = some .cell ∨ (relabel sc X.env).names.lookup x = some .free) → (x, NameKind.free) ∈ sc.names := fun x h => by
  rcases h with h | h
  ·rcases relabel_back (env := X.env) (names := sc.names) (show (sc.names.map (rl X.env)).lookup x = _ from h) with e | e
   ·exact absurd rfl (S.nocell _ e)
   ·exact e
  ·rcases relabel_back (env := X.env) (names := sc.names) (show (sc.names.map (rl X.env)).lookup x = _ from h) with e | e
   ·exact e
   ·exact e
 have has : ∀ x, (x, NameKind.free) ∈ sc.names → ∃ c, (clOf X.env.cells sc.names []).lookup x = some c := fun x e =>
  clOf_has sc.names [] x e (I.ok.has x (.inl (S.frees _ e rfl)))
 refine ⟨⟨I.ok.mod, S.kind, I.ok.glob, I.ok.blt, Nat.le_refl _, fun x y c e1 e2 => I.ok.inj x y c (cl_sub x c e1) (cl_sub y c e2), fun x h => has x (back x h), fun x c h => (by cases h), I.ok.hd, I.ok.frames, .inl rfl, fun b hb => ?_, I3.bs,
  Nat.le_trans I.ok.bsz I3.sz, fun b o e hb => ?_, fun b hb => ?_, I3.stack, I3.stkFree⟩, I.os ▸ rfl, I.bare, Un.kept hk, ⟨m, hns, fun k x v e1 e2 e3 => ?_⟩, fun x c e => ?_, I3.hok.fresh (Nat.le_refl _), fun x c e => I.freeC x c (cl_sub x c e),
  fun p hp => absurd (show p ∈ ([] : List (Addr × Obj)) from hp) (by simp), I3.hok.kept hk, capS_len S.le⟩
 ·rcases List.mem_cons.mp hb with e | hb
  ·subst e
   exact ⟨by rw [hC]; exact Nat.ne_of_lt (Nat.lt_succ_self _), fun x c e => Nat.ne_of_lt (clt x c e)⟩
  ·refine ⟨by rw [hC]; exact Nat.ne_of_lt (Nat.lt_succ_of_lt (flt b hb)), fun x c e => (hf b hb).2.2.2.2.1 x c (cl_sub x c e)⟩
 ·rcases List.mem_cons.mp hb with z | hb
  ·subst z
   exact absurd (Heap.lt_size (I.bk _ _ e)) (Nat.lt_irrefl _)
  ·have e' : X.base.get? b = some o := e
   rw [young_fp I (hf b hb)] at e'; cases e'
 ·intro hs
  have hs' := I.stkSub b hs
  rcases List.mem_cons.mp hb with z | hb
  ·subst z
   rcases List.mem_cons.mp hs' with e | e
   ·exact absurd I.lt (by rw [← e]; exact Nat.lt_irrefl _)
   ·exact I.nofs (Nat.le_refl _) e
  ·rcases List.mem_cons.mp hs' with e | e
   ·exact (hf b hb).2.1 e
   ·exact (hf b hb).2.2.1 e
 ·obtain ⟨i, h1, h2⟩ := capS_get e2
  obtain ⟨h3, h4⟩ := S.cap k i x h1 e1
  have hfr : (x, NameKind.free) ∈ sc.names := PySem.mem_of_lookup h4
  have hcell : X.env.scope.names.lookup x = some .cell := S.frees _ hfr rfl
  obtain ⟨m', hn', hl'⟩ := I.loc
  obtain ⟨u, r, l⟩ := hl' i x v h3 h2 (.inr (.inl hcell))
  refine ⟨u, r, .inr ⟨.inl (relabel_free I.ok.kind h4 hcell), ?_⟩⟩
  rcases l with ⟨q, _⟩ | ⟨_, c, ec, z⟩
  ·have q' : X.env.scope.names.lookup x = some .local := q
   rw [hcell] at q'; cases q'
  ·obtain ⟨c', ec'⟩ := has x hfr
   have := cl_sub x c' ec'
   rw [ec] at this; cases this
   exact ⟨c, ec', z.keeps fun b o e => hk b o (Heap.get?_push_of_some _ e)⟩
 ·obtain ⟨v, z⟩ := I.cell x c (cl_sub x c e)
  exact ⟨v, z.keeps fun b o e => hk b o (Heap.get?_push_of_some _ e)⟩
theorem comp_out {σ' : St} {H' : Hp} {s' : Shared} {pl : List (Addr × Obj)} (I : Inv X pins σ H s) (hf : ∀ b ∈ fp, FpOk X pins H b)
  (I' : Inv (cxC X sc N (withAcc s) H (s.heap.objs.size :: fp) (s.heap.push nilObj).objs.size) pl σ' H' s') : Inv X pins σ H' s' := by
 have I3 : Inv X pins σ H (withAcc s) := I.kept (t' := s.toks) fun b o e => Heap.get?_push_of_some _ e
 have fa : FpOk X pins H s.heap.objs.size := I.fpOk (Nat.le_refl _) (I.hok.fresh (Nat.le_refl _))
 refine I3.call' (ch := s.heap.objs.size :: fp) (I'.os.trans rfl) I'.base I'.hok I'.bare fun b hb => ?_
 have q : FpOk X pins H b := by
  rcases List.mem_cons.mp hb with e | hb
  ·subst e; exact fa
  ·exact hf b hb
 exact ⟨q.2.2.2.1, q.2.1, q.2.2.2.2.1, q.2.2.2.2.2⟩
end
abbrev TTs := St → Hp → (Bool → Hp → Prop) → Prop
def tYes : TTs := fun _ H Q => Q true H
def PTs (X : Cx) (ifs : List Expr) (t : TTs) : Prop :=
 ∀ (pins : List (Addr × Obj)) (s : Shared) (σ : St) (H : Hp) (Q : Bool → Hp → Prop), Inv X pins σ H s → t σ H Q → wpAny (model X.prog X.w) X.A (tests ifs X.env) (TP X pins σ Q) X.xe s
theorem pts_nil {X : Cx} : PTs X [] tYes := fun _ _ _ H _ I h => tests_nil ⟨H, I, h⟩
theorem pts_one {X : Cx} {c : Expr} {t : TT} (h : PT X c t) : PTs X [c] t := fun pins s σ H Q I q => tests_one (h pins s σ H Q I q)
def KeepN (n : Nat) (σ σ2 : St) : Prop := σ2.length = σ.length ∧ ∀ i, i < n → σ2[i]? = σ[i]?
def CompW (J : It) (g : TG) (tc : TTs) (te : TE) (σ0 : St) (H1 : Hp) (K : List V → Hp → Prop) : Prop :=
 ∃ W : Nat → Nat → List V → Hp → Prop, (∃ m, W 0 m [] H1) ∧ ∀ i m ys H, W i m ys H →
  (J.stop i H ∧ K ys H) ∨
  (J.go i H ∧ ys.length < sizeLine ∧ ∃ N : List V → Hp → Prop, (∀ zs H', N zs H' → ∃ m', m' < m ∧ W (i + 1) m' zs H') ∧
   ∀ x H', J.yld i H x H' → g x σ0 H' fun σ2 H2 => tc σ2 H2 fun b H3 => if b = true then te σ2 H3 (fun y H4 => N (ys ++ [y]) H4) else N ys H3)
def tComp (wi : TI) (g : TG) (tc : TTs) (te : TE) (idx : List Nat) (n : Nat) : TE := fun σ H Q => wi σ H fun J H1 =>
 CompW J g tc te (capS idx n σ) H1 fun ys H2 => ys.length ≤ sizeLine ∧ ∀ p, H2 p = none → Q (.ref p) (upd H2 p (.lst ys))
def GKeep (n : Nat) (g : TG) : Prop := ∀ x σ H Q, g x σ H Q → g x σ H fun σ2 H2 => Q σ2 H2 ∧ KeepN n σ σ2
theorem keep_set {n k : Nat} {σ : St} {v : Option V} (h : n ≤ k) : KeepN n σ (σ.set k v) := ⟨List.length_set, fun i hi => List.getElem?_set_ne (by omega)⟩
theorem gkeep_name {n k : Nat} (h : n ≤ k) : GKeep n (gName k) := fun x σ H Q q => ⟨q, keep_set h⟩
theorem gkeep_pair {K : PySem.W.Frag} {n k l : Nat} (h : n ≤ k) (h' : n ≤ l) : GKeep n (gTup K 2 (gCons (gName k) (gCons (gName l) gNil))) := fun x σ H Q q => by
 obtain ⟨a, xs, e1, e2, e3, v, r, e4, v', r', e5, e6, q⟩ := q
 refine ⟨a, xs, e1, e2, e3, v, r, e4, v', r', e5, e6, q, ?_⟩
 have k1 : KeepN n σ (σ.set k (some v)) := keep_set h
 have k2 : KeepN n (σ.set k (some v)) ((σ.set k (some v)).set l (some v')) := keep_set h'
 exact ⟨k2.1.trans k1.1, fun i hi => (k2.2 i hi).trans (k1.2 i hi)⟩
theorem weak_cap {X : Cx} {pins : List (Addr × Obj)} {σ σ2 : St} {H : Hp} {s : Shared} {idx : List Nat} {n : Nat} (I : Inv X pins σ2 H s) (k : KeepN idx.length (capS idx n σ) σ2) : Inv X pins (capS idx n σ) H s :=
 I.weak k.1.symm fun i v e => by
  obtain ⟨j, h1, _⟩ := capS_get e
  rw [k.2 i (List.getElem?_eq_some_iff.mp h1).1]
  exact e
theorem compW_of {J : It} {g : TG} {tc : TTs} {te : TE} {σ0 : St} {H1 : Hp} {K : List V → Hp → Prop} {n : Nat} (P : Nat → List V → Hp → Prop) (hn : n ≤ sizeLine) (h0 : P 0 [] H1) (hle : ∀ i ys H, P i ys H → ys.length ≤ i)
  (hgo : ∀ i ys H, i < n → P i ys H → J.go i H) (hst : ∀ ys H, P n ys H → J.stop n H)
  (hs : ∀ i ys H, i < n → P i ys H → ∀ x H', J.yld i H x H' → g x σ0 H' fun σ2 H2 => tc σ2 H2 fun b H3 => if b = true then te σ2 H3 (fun y H4 => P (i + 1) (ys ++ [y]) H4) else P (i + 1) ys H3)
  (hd : ∀ ys H, P n ys H → K ys H) : CompW J g tc te σ0 H1 K := by
 refine ⟨fun i m ys H => m = n - i ∧ i ≤ n ∧ P i ys H, ⟨n, by simp, Nat.zero_le _, h0⟩, ?_⟩
 rintro i m ys H ⟨rfl, hi, p⟩
 by_cases hlt : i < n
 ·refine .inr ⟨hgo i ys H hlt p, by have := hle i ys H p; omega, P (i + 1), fun zs H' p' => ⟨n - (i + 1), by omega, rfl, hlt, p'⟩, hs i ys H hlt p⟩
 ·have e : i = n := by omega
  subst e
  exact .inl ⟨hst ys H p, hd ys H p⟩
section
variable {X : Cx} {tg elt iter : Expr} {ifs : List Expr} {wi : TI} {g : TG} {tc : TTs} {te : TE} {sc : Scope} {N : List Str} {idx : List Nat} {pos : Pos}
theorem comp_run {pins : List (Addr × Obj)} {s : Shared} {σ : St} {H : Hp} {K : List V → Hp → Prop} {E : Value → Shared → Prop} {RR : Addr → Value → Result → Shared → Prop} (hc : X.calm = true) (S : ScC X sc N idx) (gk : GKeep idx.length g)
  (hg : ∀ s H ex C, PG (cxC X sc N s H ex C) tg g) (ht : ∀ s H ex C, PTs (cxC X sc N s H ex C) ifs tc) (he : ∀ s H ex C, PE (cxC X sc N s H ex C) elt te)
  {it : Addr} {fp : List Addr} {tn : Nat → Heap → Prop} {J : It} (I : Inv X pins σ H s) (T : Turn X.prog X.w X.K tg J fp it tn) (st : tn 0 s.heap) (hf : ∀ b ∈ fp, FpOk X pins H b) (hW : CompW J g tc te (capS idx N.length σ) H K)
  (hR : ∀ (s' : Shared) (ys : List V) (H' : Hp) (m : Str → Option Value) (its : List Value) (n : Nat), K ys H' → Inv X pins σ H' s' → s'.heap.Ns (s.heap.push nilObj).objs.size m → H' (s.heap.push nilObj).objs.size = none → H' s.heap.objs.size = none → Vals ys its →
   s'.heap.get? s.heap.objs.size = some { cls := .type "list", data := .seq its.toArray n } → RR (s.heap.push nilObj).objs.size (.ref s.heap.objs.size) (.ok .next) s') :
  wpAny (model X.prog X.w) X.A (newList []) (fun acc s₃ => wpAny (model X.prog X.w) X.A (newFunctionEnv sc X.env.globals (clOf X.env.cells sc.names []) [] X.env.qual none .none (some X.env)) (fun cenv s₄ =>
   codeAny (model X.prog X.w) X.A (.compStart (.ListComp elt [⟨tg, iter, ifs, 0⟩] sc pos) 0 (.ref it) acc { cenv with scope := relabel sc X.env }) (RR cenv.locals acc) s₄) E s₃) E s := by
 obtain ⟨W, ⟨m0, w0⟩, turn⟩ := hW
 refine wpAny_newObj_type (wpAny_newFunctionEnv S.nocell (by intro y hy; cases hy) (fun h' hns hsb => ?_) S.kind)
 have hC : (s.heap.push nilObj).objs.size = s.heap.objs.size + 1 := Heap.size_push _ _
 have hk : ∀ b o, (s.heap.push nilObj).get? b = some o → h'.get? b = some o := fun b o e => (hsb.2 b (Nat.ne_of_lt (Heap.lt_size e))).trans (Heap.get?_push_of_some _ e)
 have ho : ∀ b ∈ fp, ∃ o, s.heap.get? b = some o := fun b hb => let ⟨o, e, _⟩ := T.obj _ _ st b hb; ⟨o, e⟩
 have I0 := comp_inv (t := s.toks + ([] : List (Str × Value)).length) I S hf ho hns hk
 have fn : ∀ b ∈ fp, b ≠ s.heap.objs.size := fun b hb => by
  obtain ⟨o, e⟩ := ho b hb
  exact Nat.ne_of_lt (Heap.lt_size e)
 have accN : H s.heap.objs.size = none := I.hok.fresh (Nat.le_refl _)
 have fpC : ∀ {H' : Hp} {pl : List (Addr × Obj)}, (∀ b ∈ fp, H' b = none) → (∀ p ∈ pl, p.1 = s.heap.objs.size) → ∀ b ∈ fp, FpOk (cxC X sc N (withAcc s) H (s.heap.objs.size :: fp) (s.heap.push nilObj).objs.size) pl H' b := fun {H' pl} hn hp b hb => by
  refine ⟨hn b hb, (I0.ok.exf b (List.mem_cons_of_mem _ hb)).1, I0.ok.exfs b (List.mem_cons_of_mem _ hb), .inl (List.mem_cons_of_mem _ hb), (I0.ok.exf b (List.mem_cons_of_mem _ hb)).2, fun p hq => ?_⟩
  have hq' : p ∈ pl := by simpa [cxC] using hq
  rw [hp p hq']
  exact Ne.symm (fn b hb)
 have loop : codeAny (model X.prog X.w) X.A (.compLoop (.ListComp elt [⟨tg, iter, ifs, 0⟩] sc pos) 0 (.ref it) (.ref s.heap.objs.size) (compEnvC sc (clOf X.env.cells sc.names []) (s.heap.push nilObj).objs.size X.env))
   (RR (s.heap.push nilObj).objs.size (.ref s.heap.objs.size)) { withAcc s with heap := h', toks := s.toks + ([] : List (Str × Value)).length } := by
  refine comp_loop (EE := fun _ _ => False) (fun n s' => ∃ i ys H' its k, Inv (cxC X sc N (withAcc s) H (s.heap.objs.size :: fp) (s.heap.push nilObj).objs.size) [] (capS idx N.length σ) H' s' ∧ tn i s'.heap ∧ (∀ b ∈ fp, H' b = none) ∧ H' s.heap.objs.size = none ∧
   Vals ys its ∧ s'.heap.get? s.heap.objs.size = some { cls := .type "list", data := .seq its.toArray k } ∧ W i n ys H') (fun _ _ z => z.elim) ?_ m0 ?_
  ·rintro n s3 ⟨i, ys, H3, its, kk, I3, st3, fr3, an3, rv3, ac3, w3⟩
   have accC : ∀ {H' : Hp}, H' s.heap.objs.size = none → FpOk (cxC X sc N (withAcc s) H (s.heap.objs.size :: fp) (s.heap.push nilObj).objs.size) [] H' s.heap.objs.size := fun {H'} hn =>
    ⟨hn, (I0.ok.exf _ List.mem_cons_self).1, I0.ok.exfs _ List.mem_cons_self, .inl List.mem_cons_self, (I0.ok.exf _ List.mem_cons_self).2, fun p hq => absurd (show p ∈ ([] : List (Addr × Obj)) from hq) (by simp)⟩
   have P3 : Inv (cxC X sc N (withAcc s) H (s.heap.objs.size :: fp) (s.heap.push nilObj).objs.size) [(s.heap.objs.size, { cls := .type "list", data := .seq its.toArray kk })] (capS idx N.length σ) H3 s3 := I3.pins_of fun p hp => by
    have e : p = (s.heap.objs.size, { cls := .type "list", data := .seq its.toArray kk }) := by simpa using hp
    subst e
    exact ⟨ac3, an3, (accC an3).2.1, (accC an3).2.2.1, fun v z => by cases z⟩
   have one : ∀ p ∈ [((s.heap.objs.size, { cls := .type "list", data := .seq its.toArray kk }) : Addr × Obj)], p.1 = s.heap.objs.size := fun p hp => by
    have e : p = (s.heap.objs.size, { cls := .type "list", data := .seq its.toArray kk }) := by simpa using hp
    rw [e]
   rcases turn i n ys H3 w3 with ⟨stop, kq⟩ | ⟨go, hz, NN, hNN, step⟩
   ·refine thn (T.done (cxC X sc N (withAcc s) H (s.heap.objs.size :: fp) (s.heap.push nilObj).objs.size) rfl rfl rfl hc i _ s3 _ H3 _ P3 (fpC fr3 one) st3 stop) fun r s4 ⟨hr, I4⟩ => ⟨fun _ => ?_, fun v e => (by rw [hr] at e; cases e)⟩
    obtain ⟨m', hn', _⟩ := I4.loc
    exact hR s4 ys H3 m' its kk kq (comp_out I hf I4) hn' I4.free an3 rv3 (I4.pin _ (List.mem_append_right _ List.mem_cons_self)).1
   ·refine thn (T.item (cxC X sc N (withAcc s) H (s.heap.objs.size :: fp) (s.heap.push nilObj).objs.size) rfl rfl rfl hc i _ s3 _ H3 _ P3 (fpC fr3 one) st3 go) fun r s4 ⟨u, hr, h4⟩ => ⟨fun e => (by rw [hr] at e; cases e), fun v e => ?_⟩
    rw [hr] at e
    cases e
    refine thn h4 fun _ s5 ⟨x, H5, I5, r5, y5, st5, fr5⟩ => ?_
    have I5' := I5.pinned (fpC fr5 one) (T.obj _ _ st5)
    refine thn (hg _ _ _ _ _ s5 _ H5 x u _ I5' r5 (gk _ _ _ _ (step x H5 y5))) fun _ s6 ⟨σ6, H6, I6, q6, k6⟩ => ?_
    refine thn (ht _ _ _ _ _ s6 σ6 H6 _ I6 q6) fun ok s7 ⟨H7, I7, q7⟩ => ⟨fun e => ?_, fun e => ?_⟩
    ·subst e
     rw [if_pos rfl] at q7
     refine thn (he _ _ _ _ _ s7 σ6 H7 _ I7 q7) fun v s8 ⟨y, H8, I8, r8, n8⟩ => ?_
     obtain ⟨m', hm, w8⟩ := hNN _ _ n8
     have pa := I8.pin (s.heap.objs.size, { cls := .type "list", data := .seq its.toArray kk }) (List.mem_append_right _ (List.mem_append_left _ List.mem_cons_self))
     have hlen := rv3.length
     refine wpAny_list_append_plain (items := its.toArray) ⟨kk, pa.1⟩ (fun h9 pl9 sb9 => ?_) (by rw [List.size_toArray]; omega)
     have I8' : Inv (cxC X sc N (withAcc s) H (s.heap.objs.size :: fp) (s.heap.push nilObj).objs.size) (pinsAt fp s5.heap) σ6 H8 s8 := I8.pins_of fun p hp => I8.pin p (List.mem_append_right _ (List.mem_append_right _ hp))
     have I9 := I8'.turned (h' := h9) (t' := s8.toks) (it := s.heap.objs.size) (fun b o hb e => (sb9.2 b hb).trans e) pa.2.1 (accC pa.2.1).2.1 (.inl List.mem_cons_self) (accC pa.2.1).2.2.2.2.1 (fun p hp => by
      have hp' : p ∈ pinsAt fp s5.heap := by simpa [cxC] using hp
      exact fn p.1 (of_pinsAt hp').1)
     obtain ⟨k9, e9⟩ := pl9
     refine ⟨m', hm, i + 1, ys ++ [y], H8, its ++ [v], k9, weak_cap (I9.pins_of (fun p hp => absurd hp (by simp))) k6, T.keep _ _ _ st5 fun b hb o e => ?_, fun b hb => ?_, pa.2.1, rv3.append (.cons r8 .nil), ?_, w8⟩
     ·have q := (I8'.pin (b, o) (List.mem_append_right _ (mem_pinsAt hb e))).1
      exact (sb9.2 b (fn b hb)).trans q
     ·obtain ⟨o, e, _⟩ := T.obj _ _ st5 b hb
      exact (I8'.pin (b, o) (List.mem_append_right _ (mem_pinsAt hb e))).2.1
     ·rw [e9]
      simp
    ·subst e
     rw [if_neg Bool.false_ne_true] at q7
     obtain ⟨m', hm, w7⟩ := hNN _ _ q7
     have pa := I7.pin (s.heap.objs.size, { cls := .type "list", data := .seq its.toArray kk }) (List.mem_append_right _ (List.mem_append_left _ List.mem_cons_self))
     refine ⟨m', hm, i + 1, ys, H7, its, kk, weak_cap (I7.pins_of (fun p hp => absurd hp (by simp))) k6, T.keep _ _ _ st5 fun b hb o e => ?_, fun b hb => ?_, pa.2.1, rv3, pa.1, w7⟩
     ·exact (I7.pin (b, o) (List.mem_append_right _ (List.mem_append_right _ (mem_pinsAt hb e)))).1
     ·obtain ⟨o, e, _⟩ := T.obj _ _ st5 b hb
      exact (I7.pin (b, o) (List.mem_append_right _ (List.mem_append_right _ (mem_pinsAt hb e)))).2.1
  ·exact ⟨0, [], H, [], 0, I0, T.keep _ _ _ st fun b hb o e => hk b o (Heap.get?_push_of_some _ e), fun b hb => (hf b hb).1, accN, .nil, hk _ _ (Heap.get?_push_size _ rfl), w0⟩
 exact codeAny_compStart_list loop (T.self _ 0 _ _ _ (T.keep _ _ _ st fun b hb o e => hk b o (Heap.get?_push_of_some _ e)) loop)
theorem pe_comp (hc : X.calm = true) (S : ScC X sc N idx) (gk : GKeep idx.length g) (hi : PI X tg iter wi)
  (hg : ∀ s H ex C, PG (cxC X sc N s H ex C) tg g) (ht : ∀ s H ex C, PTs (cxC X sc N s H ex C) ifs tc) (he : ∀ s H ex C, PE (cxC X sc N s H ex C) elt te)
  (hs : ∀ x, foldedSetIterable iter X.env x = pure x := by intro _; rfl) : PE X (.ListComp elt [⟨tg, iter, ifs, 0⟩] sc pos) (tComp wi g tc te idx N.length) := by
 intro pins s σ H Q I h
 rw [eval_ListComp]
 have hcl : closureFor sc X.env = pure (clOf X.env.cells sc.names []) := closure_of fun p hp e => I.ok.has p.1 (.inl (S.frees p hp e))
 refine wpAny_comprehension_free (use := none) rfl hs hcl S.kind S.locs (thn (hi pins s σ H _ I h) fun v s1 h1 => thn h1 fun itv s2 h2 => ?_)
 obtain ⟨it, fp, tn, J, H2, e, I2, T, st2, f2, hW⟩ := h2
 subst e
 refine comp_run (RR := fun C acc => compPost (model X.prog X.w) X.A X.xe none (EP X pins σ Q) acc C) hc S gk hg ht he I2 T st2 f2 hW fun s' ys H' m its n kq I' hns hCn hAn rv ea => ?_
 have hC : (s2.heap.push nilObj).objs.size = s2.heap.objs.size + 1 := Heap.size_push _ _
 have fa : FpOk X pins H2 s2.heap.objs.size := I2.fpOk (Nat.le_refl _) (I2.hok.fresh (Nat.le_refl _))
 have fC : FpOk X pins H2 (s2.heap.push nilObj).objs.size := I2.fpOk (by rw [hC]; exact Nat.le_succ _) (I2.hok.fresh (by rw [hC]; exact Nat.le_succ _))
 have ya : X.s₀.heap.objs.size ≤ s2.heap.objs.size := I2.sz
 have I1 := Inv.adopt (o := .lst ys) I' hAn ya fa.2.1 fa.2.2.2.2.1 fa.2.2.2.2.2 ⟨kq.1, its, n, rv, ea⟩
 refine ⟨m, hns, fun h' sb => ⟨.ref s2.heap.objs.size, _, I1.turned (h' := h') (t' := s'.toks) (it := (s2.heap.push nilObj).objs.size) (fun b o hb e => (sb.2 b hb).trans e) ?_ fC.2.1 (.inr (by rw [hC]; exact Nat.le_succ_of_le ya)) fC.2.2.2.2.1 fC.2.2.2.2.2, rfl, kq.2 _ hAn⟩⟩
 rw [upd_ne (by rw [hC]; exact Nat.succ_ne_self _)]
 exact hCn
end
end L2
namespace L2
open PySem PySem.Spec PyProof.Rows L3
theorem Inv.turnedL {X : Cx} {pins : List (Addr × Obj)} {σ : St} {H : Hp} {s : Shared} {h' : Heap} {t' : Nat} {ch : List Addr} (I : Inv X pins σ H s) (k : ∀ b o, b ∉ ch → s.heap.get? b = some o → h'.get? b = some o)
  (hc : ∀ b ∈ ch, FpOk X pins H b) : Inv X pins σ H { s with heap := h', toks := t' } := by
 have nch : ∀ b u, H b = some u → b ∉ ch := fun b u e z => by rw [(hc b z).1] at e; cases e
 refine I.step (g' := s.gens) (d' := s.drawn) (ch := ch) (fun b hb => ⟨(hc b hb).2.2.2.1, (hc b hb).2.1, (hc b hb).2.2.2.2.1, (hc b hb).2.2.2.2.2⟩) (fun b o _ _ z e _ => k b o z e) (fun b o _ _ z e _ => ⟨o.slots, k b o z e⟩) (fun _ _ _ _ n => n)
  (fun b o z e => ⟨o, k b o z e⟩) (fun _ _ e => e) (fun _ _ _ e => e) (fun b ps e => ⟨#[], by rw [e]; simp⟩) (fun m hm => ?_) (fun b u e => ?_) I.bare
 ·obtain ⟨o, es, ep, ho, r⟩ := hm
  exact ⟨o, es, ep, k _ o (fun z => (hc _ z).2.1 rfl) ho, r⟩
 ·refine (I.hok b u e).stay (fun c v hq q => k c v ?_ q) (fun _ q => q) fun _ _ q => q
  rcases hq with z | z
  ·rw [z]; exact nch b u e
  ·exact nch c _ z
def Sq (b : Bool) (K : W.Frag) (H : Hp) (a : Addr) (xs : List V) : Prop := if b = true then SqL K H a xs else SqT K H a xs
theorem sq_is {X : Cx} {pins : List (Addr × Obj)} {σ : St} {H : Hp} {s : Shared} {b : Bool} {a : Addr} {xs : List V} (I : Inv X pins σ H s) (h : Sq b X.K H a xs) : ∃ its : List Value, Vals xs its ∧ SeqIs b s.heap a its.toArray ∧ xs.length ≤ sizeLine := by
 cases b with
 | true =>
  obtain ⟨its, r, p, z⟩ := I.list h
  exact ⟨its, r, p.isList, z⟩
 | false =>
  obtain ⟨its, r, p, z⟩ := I.tuple h
  exact ⟨its, r, p, z⟩
theorem sq_inj {X : Cx} {pins : List (Addr × Obj)} {σ : St} {H : Hp} {s : Shared} {b : Bool} {a : Addr} {xs ys : List V} (I : Inv X pins σ H s) (h : Sq b X.K H a xs) (h' : Sq b X.K H a ys) : xs = ys := by
 cases b with
 | true => exact I.list_inj h h'
 | false => exact I.tuple_inj h h'
theorem sq_lt {X : Cx} {pins : List (Addr × Obj)} {σ : St} {H : Hp} {s : Shared} {b : Bool} {a : Addr} {xs : List V} (I : Inv X pins σ H s) (h : Sq b X.K H a xs) : a < s.heap.objs.size := by
 obtain ⟨its, r, p, z⟩ := sq_is I h
 cases b with
 | true => obtain ⟨o, e, _⟩ := (show s.heap.IsList a its.toArray from p); exact Heap.lt_size e
 | false => obtain ⟨o, e, _⟩ := (show s.heap.IsTuple a its.toArray from p); exact Heap.lt_size e
def Itz (b1 b2 : Bool) (K : W.Frag) (l1 l2 : Addr) : It :=
 ⟨fun i H => ∃ xs ys x y, Sq b1 K H l1 xs ∧ Sq b2 K H l2 ys ∧ xs[i]? = some x ∧ ys[i]? = some y,
 fun i H v H' => ∃ p x y, H p = none ∧ v = .ref p ∧ H' = upd H p (.tup [x, y]) ∧ ∀ xs ys, Sq b1 K H l1 xs → Sq b2 K H l2 ys → xs[i]? = some x ∧ ys[i]? = some y,
 fun i H => ∃ xs ys, Sq b1 K H l1 xs ∧ Sq b2 K H l2 ys ∧ (xs.length ≤ i ∨ ys.length ≤ i)⟩
theorem seqIt_data {b : Bool} {h : Heap} {it l : Addr} {i : Nat} (x : SeqIt b h it l i) : ∃ o, h.get? it = some o ∧ ∀ v, o.data ≠ .cell v := by
 obtain ⟨o, vs, e, d⟩ := x.obj
 exact ⟨o, e, fun v z => by rw [d] at z; cases z⟩
theorem turn_zip {P : Program} {w : World} {K : W.Frag} {es : List Expr} {x1 : Nat} {pos : Pos} {b1 b2 : Bool} {z TI TO i1 i2 l1 l2 : Addr} (D : ZipApart z TI TO i1 i2 l1 l2) :
  Turn P w K (.Tuple es x1 pos) (Itz b1 b2 K l1 l2) [z, TI, TO, i1, i2] z (fun i h => IsZip h z TI TO .none ∧ IsPair h TI (.ref i1) (.ref i2) ∧ (∃ a b, IsPair h TO a b) ∧ SeqIt b1 h i1 l1 i ∧ SeqIt b2 h i2 l2 i) where
 mem := by simp
 obj := fun i h ⟨a1, a2, ⟨a, b, a3⟩, a4, a5⟩ c hc => by
  simp only [List.mem_cons, List.mem_nil_iff, or_false] at hc
  rcases hc with rfl | rfl | rfl | rfl | rfl
  ·exact ⟨_, a1, fun v z => by cases z⟩
  ·exact ⟨_, a2, fun v z => by cases z⟩
  ·exact ⟨_, a3, fun v z => by cases z⟩
  ·exact seqIt_data a4
  ·exact seqIt_data a5
 keep := fun i h h' ⟨a1, a2, ⟨a, b, a3⟩, a4, a5⟩ k => ⟨k z (by simp) _ a1, k TI (by simp) _ a2, ⟨a, b, k TO (by simp) _ a3⟩, a4.at fun o e => k i1 (by simp) o e, a5.at fun o e => k i2 (by simp) o e⟩
 item := by
  intro X hP hw hK hc i pins s σ H E I hf ⟨a1, a2, ⟨a, b, a3⟩, a4, a5⟩ hg
  subst hP hw hK
  obtain ⟨xs, ys, x, y, q1, q2, hx, hy⟩ := hg
  obtain ⟨vs1, r1, m1, _⟩ := sq_is I q1
  obtain ⟨vs2, r2, m2, _⟩ := sq_is I q2
  obtain ⟨u, hu, ru⟩ := r1.get hx
  obtain ⟨v, hv, rv⟩ := r2.get hy
  refine zip_item D a1 a2 a3 a4 a5 m1 m2 (x := u) (y := v) (by simpa using hu) (by simpa using hv) fun h' c1 c2 c3 c4 c5 kk => ?_
  have hp : H s.heap.objs.size = none := I.hok.fresh (Nat.le_refl _)
  have lts : ∀ c ∈ [z, TI, TO, i1, i2], c < s.heap.objs.size := fun c hc => by
   simp only [List.mem_cons, List.mem_nil_iff, or_false] at hc
   rcases hc with rfl | rfl | rfl | rfl | rfl
   ·exact Heap.lt_size a1
   ·exact Heap.lt_size a2
   ·exact Heap.lt_size a3
   ·obtain ⟨o, e, _⟩ := seqIt_data a4; exact Heap.lt_size e
   ·obtain ⟨o, e, _⟩ := seqIt_data a5; exact Heap.lt_size e
  refine ⟨_, rfl, wpAny_letOwnedTupleGo_zip c1 fun h'' d1 sb => ?_⟩
  have sz : ∀ c ∈ [z, TI, TO, i1, i2], c ≠ s.heap.objs.size := fun c hc => Nat.ne_of_lt (lts c hc)
  have k2 : ∀ c o, c ∉ [z, TO, i1, i2] → s.heap.get? c = some o → h''.get? c = some o := fun c o hc e => by
   simp only [List.mem_cons, List.mem_nil_iff, or_false, not_or] at hc
   exact (sb.2 c hc.1).trans (kk c o hc.1 hc.2.1 hc.2.2.1 hc.2.2.2 e)
  have fz : ∀ c ∈ [z, TO, i1, i2], FpOk X pins H c := fun c hc => hf c (by
   simp only [List.mem_cons, List.mem_nil_iff, or_false] at hc ⊢
   rcases hc with rfl | rfl | rfl | rfl <;> simp)
  have I1 : Inv X pins σ H { s with heap := h'' } := Inv.turnedL (t' := s.toks) I k2 fz
  have pT : IsPair h'' s.heap.objs.size u v := (sb.2 _ (Ne.symm (sz z (by simp)))).trans c5
  have fT : FpOk X pins H s.heap.objs.size := I.fpOk (Nat.le_refl _) hp
  have I2 : Inv X pins σ (upd H s.heap.objs.size (.tup [x, y])) { s with heap := h'' } := Inv.adopt I1 hp I.sz fT.2.1 fT.2.2.2.2.1 fT.2.2.2.2.2 ⟨by show 2 ≤ sizeLine; decide, [u, v], .cons ru (.cons rv .nil), ⟨_, pT, rfl, _, rfl⟩⟩
  refine ⟨.ref s.heap.objs.size, _, I2, rfl, ⟨_, x, y, hp, rfl, rfl, fun xs' ys' p1 p2 => ⟨by rw [sq_inj I p1 q1]; exact hx, by rw [sq_inj I p2 q2]; exact hy⟩⟩, ⟨d1, (sb.2 _ D.TIz).trans (kk _ _ D.TIz D.TITO D.TIi1 D.TIi2 a2), ⟨u, v, (sb.2 _ D.TOz).trans c2⟩,
   c3.at fun o e => (sb.2 _ D.i1z).trans e, c4.at fun o e => (sb.2 _ D.i2z).trans e⟩, fun c hc => ?_⟩
  rw [upd_ne (sz c hc)]
  exact (hf c hc).1
 done := by
  intro X hP hw hK hc i pins s σ H E I hf ⟨a1, a2, ⟨a, b, a3⟩, a4, a5⟩ hg
  subst hP hw hK
  obtain ⟨xs, ys, q1, q2, hend⟩ := hg
  obtain ⟨vs1, r1, m1, _⟩ := sq_is I q1
  obtain ⟨vs2, r2, m2, _⟩ := sq_is I q2
  have l1' := r1.length
  have l2' := r2.length
  refine zip_end (I.ok.hd hc) D a1 a2 a3 a4 a5 m1 m2 (by rcases hend with q | q; exact .inl (by simp; omega); exact .inr (by simp; omega)) fun h' kk => ⟨rfl, ?_⟩
  refine Inv.turnedL (t' := s.toks) (ch := [z, TO, i1, i2]) I (fun c o hc e => ?_) fun c hc => hf c (by
   simp only [List.mem_cons, List.mem_nil_iff, or_false] at hc ⊢
   rcases hc with rfl | rfl | rfl | rfl <;> simp)
  simp only [List.mem_cons, List.mem_nil_iff, or_false, not_or] at hc
  exact kk c o hc.1 hc.2.1 hc.2.2.1 hc.2.2.2 e
 self := fun _ _ _ _ _ st h => wpAny_pyIter_zip st.1 h
section
variable {X : Cx} {pos : Pos}
def iZip (b1 b2 : Bool) (K : W.Frag) (ta : TA) : TI := fun σ H R => ta σ H fun vs H1 => ∃ l1 l2 xs ys, vs = [.ref l1, .ref l2] ∧ Sq b1 K H1 l1 xs ∧ Sq b2 K H1 l2 ys ∧ R (Itz b1 b2 K l1 l2) H1
theorem pi_zip {b1 b2 : Bool} {a b : Expr} {ta : TA} {p : Pos} {es : List Expr} {x1 : Nat} {tpos : Pos} (hg : Gl X "zip") (hm : X.mg "zip" = none) (ha : PA X [a, b] ta)
  (hs : starEach [a, b] X.env = [(false, eval a X.env), (false, eval b X.env)] := by rfl) (hs2 : starEach [b] X.env = [(false, eval b X.env)] := by rfl) : PI X (.Tuple es x1 tpos) (.Call (.Name "zip" p) [a, b] [] pos) (iZip b1 b2 X.K ta) := by
 intro pins s σ H R I h
 refine Call_ (ld_blt I hg hm boot_zip (PyProof.Rows.callWith_type1 (thn (ha pos pins s σ H _ I h) fun us s1 ⟨vs, H1, I1, r1, q1⟩ => ?_) (by rw [hs, hs2]) (by rw [hs2]; rfl)))
 obtain ⟨l1, l2, xs, ys, e, q1, q2, q⟩ := q1
 subst e
 cases r1 with
 | cons r rr =>
  cases rr with
  | cons r' rr =>
   cases rr
   cases r
   cases r'
   obtain ⟨vs1, _, m1, _⟩ := sq_is I1 q1
   obtain ⟨vs2, _, m2, _⟩ := sq_is I1 q2
   have n1 := sq_lt I1 q1
   have n2 := sq_lt I1 q2
   refine zip_call m1 m2 fun h' c1 c2 c3 c4 c5 kk => wpAny_pyIter_zip c1 ?_
   refine ⟨_, _, _, _, H1, rfl, I1.kept (t' := s1.toks) kk, turn_zip (D := zipApart_new n1 n2), ⟨c1, c2, ⟨_, _, c3⟩, c4, c5⟩, fun c hc => ?_, q⟩
   have hc' : s1.heap.objs.size ≤ c := by
    simp only [List.mem_cons, List.mem_nil_iff, or_false] at hc
    rcases hc with rfl | rfl | rfl | rfl | rfl <;> omega
   exact I1.fpOk hc' (I1.hok.fresh hc')
def Ite (b : Bool) (K : W.Frag) (l : Addr) : It :=
 ⟨fun i H => ∃ xs x, Sq b K H l xs ∧ xs[i]? = some x,
 fun i H v H' => ∃ p x, H p = none ∧ v = .ref p ∧ H' = upd H p (.tup [.int i, x]) ∧ ∀ xs, Sq b K H l xs → xs[i]? = some x,
 fun i H => ∃ xs, Sq b K H l xs ∧ xs.length ≤ i⟩
end
theorem turn_enum {P : Program} {w : World} {K : W.Frag} {es : List Expr} {x1 : Nat} {pos : Pos} {b : Bool} {e it l : Addr} (n1 : e ≠ it) (n2 : l ≠ it) (n3 : e ≠ l) :
  Turn P w K (.Tuple es x1 pos) (Ite b K l) [e, it] e (fun i h => (∃ old, IsEnum h e it i old) ∧ SeqIt b h it l i) where
 mem := by simp
 obj := fun i h ⟨⟨old, a1⟩, a2⟩ c hc => by
  simp only [List.mem_cons, List.mem_nil_iff, or_false] at hc
  rcases hc with rfl | rfl
  ·exact ⟨_, a1, fun v z => by cases z⟩
  ·exact seqIt_data a2
 keep := fun i h h' ⟨⟨old, a1⟩, a2⟩ k => ⟨⟨old, k e (by simp) _ a1⟩, a2.at fun o q => k it (by simp) o q⟩
 item := by
  intro X hP hw hK hc i pins s σ H E I hf ⟨⟨old, a1⟩, a2⟩ hg
  subst hP hw hK
  obtain ⟨xs, x, q1, hx⟩ := hg
  obtain ⟨vs, r1, m1, _⟩ := sq_is I q1
  obtain ⟨u, hu, ru⟩ := r1.get hx
  have hil : i < vs.toArray.size := by
   have := (List.getElem?_eq_some_iff.mp hu).1
   simpa using this
  have hh : X.A.in1.handled = none := I.ok.hd hc
  refine wpAny_pyNext_enum_itemD (n := vs.toArray.size) (draws_seq (b := b) hh it l n2 vs.toArray) a1 ⟨a2, m1⟩ hil n1 (by simp; exact ⟨n1, n3⟩) fun y h' tk hy c1 c2 c3 c4 kk => ?_
  have ey : y = u := by
   have : vs[i]? = some y := by simpa using hy
   rw [hu] at this
   exact (Option.some.inj this).symm
  subst ey
  have hp : H s.heap.objs.size = none := I.hok.fresh (Nat.le_refl _)
  have eS : e ≠ s.heap.objs.size := Nat.ne_of_lt (Heap.lt_size a1)
  have iS : it ≠ s.heap.objs.size := by
   obtain ⟨o, q, _⟩ := seqIt_data a2
   exact Nat.ne_of_lt (Heap.lt_size q)
  refine ⟨_, rfl, wpAny_letOwnedTupleGo_enum c1 fun h'' d1 sb => ?_⟩
  have k2 : ∀ c o, c ∉ [e, it] → s.heap.get? c = some o → h''.get? c = some o := fun c o hc q => by
   simp only [List.mem_cons, List.mem_nil_iff, or_false, not_or] at hc
   exact (sb.2 c hc.1).trans (kk c o hc.1 hc.2 q)
  have I1 : Inv X pins σ H { s with heap := h'', toks := tk + 1 } := Inv.turnedL I k2 hf
  have pT : h''.get? s.heap.objs.size = some { cls := .type "tuple", data := .seq #[.int i tk, y] } := (sb.2 _ (Ne.symm eS)).trans c3
  have fT : FpOk X pins H s.heap.objs.size := I.fpOk (Nat.le_refl _) hp
  have I2 : Inv X pins σ (upd H s.heap.objs.size (.tup [.int i, x])) { s with heap := h'', toks := tk + 1 } := Inv.adopt I1 hp I.sz fT.2.1 fT.2.2.2.2.1 fT.2.2.2.2.2
   ⟨by show 2 ≤ sizeLine; decide, [.int i tk, y], .cons ⟨_, rfl⟩ (.cons ru .nil), ⟨_, pT, rfl, _, rfl⟩⟩
  refine ⟨.ref s.heap.objs.size, _, I2, rfl, ⟨_, x, hp, rfl, rfl, fun xs' p1 => by rw [sq_inj I p1 q1]; exact hx⟩, ⟨⟨_, by simpa using d1⟩, c2.1.at fun o q => (sb.2 _ (Ne.symm n1)).trans q⟩, fun c hc => ?_⟩
  simp only [List.mem_cons, List.mem_nil_iff, or_false] at hc
  rcases hc with rfl | rfl
  ·rw [upd_ne eS]; exact (hf _ (by simp)).1
  ·rw [upd_ne iS]; exact (hf _ (by simp)).1
 done := by
  intro X hP hw hK hc i pins s σ H E I hf ⟨⟨old, a1⟩, a2⟩ hg
  subst hP hw hK
  obtain ⟨xs, q1, hend⟩ := hg
  obtain ⟨vs, r1, m1, _⟩ := sq_is I q1
  have hl := r1.length
  have hT : s.TypeIs (.ref e) "enumerate" := ⟨_, a1, rfl⟩
  unfold pyNext
  refine wpAny_bind (wpAny_attempt (wpAny_callSpecial?_slot (name := Str.ofString "__next__") hT F.slot_enumerate_next (wpAny_call_entry F.slot_enumerate_next hT F.entry_enumerate_next ?_ (F.args_enumerate_next_1 _))))
  show wpAny _ _ (field (.ref e) 2 >>= _) _ _ s
  refine wpAny_bind (wpAny_field a1 rfl (x := .ref it) rfl (wpAny_bind (next_end (show X.A.in1.handled = none from I.ok.hd hc) a2 m1 (by simp; omega) fun h' y hk ⟨o, ho, hoc⟩ => ?_)))
  refine wpAny_bind (wpAny_isInstance (T := "StopIteration") (b := true) ⟨o, ho, hoc⟩ isSubtype_stop (wpAny_pure ⟨rfl, ?_⟩))
  refine I.turned (t' := s.toks) (it := it) (fun c q hc z => hk c q hc z) (hf it (by simp)).1 (hf it (by simp)).2.1 (hf it (by simp)).2.2.2.1 (hf it (by simp)).2.2.2.2.1 (hf it (by simp)).2.2.2.2.2
 self := fun _ _ _ _ _ st h => let ⟨_, a1⟩ := st.1; wpAny_pyIter_enum a1 h
section
variable {X : Cx} {pos : Pos}
def iEnum (b : Bool) (K : W.Frag) (ta : TA) : TI := fun σ H R => ta σ H fun vs H1 => ∃ l xs, vs = [.ref l] ∧ Sq b K H1 l xs ∧ R (Ite b K l) H1
theorem pi_enum {b : Bool} {a : Expr} {ta : TA} {p : Pos} {es : List Expr} {x1 : Nat} {tpos : Pos} (hg : Gl X "enumerate") (hm : X.mg "enumerate" = none) (ha : PA X [a] ta)
  (hs : starEach [a] X.env = [(false, eval a X.env)] := by rfl) : PI X (.Tuple es x1 tpos) (.Call (.Name "enumerate" p) [a] [] pos) (iEnum b X.K ta) := by
 intro pins s σ H R I h
 refine Call_ (ld_blt I hg hm boot_enumerate (PyProof.Rows.callWith_type1 (thn (ha pos pins s σ H _ I h) fun us s1 ⟨vs, H1, I1, r1, q1⟩ => ?_) hs rfl))
 obtain ⟨l, xs, e, q1, q⟩ := q1
 subst e
 cases r1 with
 | cons r rr =>
  cases rr
  cases r
  obtain ⟨vs1, _, m1, _⟩ := sq_is I1 q1
  have n1 := sq_lt I1 q1
  refine enum_call m1 fun h' c1 c2 kk => wpAny_pyIter_enum c1 ?_
  refine ⟨_, _, _, _, H1, rfl, I1.kept (t' := s1.toks) kk, turn_enum (Nat.succ_ne_self _) (Nat.ne_of_lt n1) (Ne.symm (Nat.ne_of_lt (Nat.lt_succ_of_lt n1))), ⟨⟨_, c1⟩, c2⟩, fun c hc => ?_, q⟩
  have hc' : s1.heap.objs.size ≤ c := by
   simp only [List.mem_cons, List.mem_nil_iff, or_false] at hc
   rcases hc with rfl | rfl <;> omega
  exact I1.fpOk hc' (I1.hok.fresh hc')
end
end L2
namespace L2
open PySem PySem.Spec PyProof.Rows PySem.SeqAt L3
def clsV : V → Option Value
 | .ty n => some (.type n)
 | .ref a => some (.ref a)
 | _ => none
theorem clsV_rel {c : V} {cv u : Value} (h : clsV c = some cv) (r : RelV c u) : u = cv := by
 cases c with
 | ty n => cases h; exact r
 | ref a => cases h; exact r
 | _ => cases h
def rIsi (K : W.Frag) : List V → Hp → VK → Prop := fun xs H Q => ∃ x c t cv b, xs = [x, c] ∧ TyOf K H x t ∧ clsV c = some cv ∧ W.kitOne K t cv = some b ∧ Q (.bl b) H
section
variable {X : Cx}
theorem call_isi : CallR X (.builtin "isinstance") (rIsi X.K) := by
 intro pins s σ H xs us Q I r h
 obtain ⟨x, c, t, cv, b, e, ty, hc, hk, q⟩ := h
 subst e
 cases r with
 | cons r1 r2 =>
  cases r2 with
  | cons r2 r3 =>
   cases r3
   cases clsV_rel hc r2
   exact isinst_ok I r1 ty hk fun tk => ⟨.bl b, H, I.tok tk, rfl, q⟩
theorem range_all (bs : List Bool) : (List.range bs.length).all (fun i => bs.getD i false) = bs.all id := by
 induction bs with
 | nil => rfl
 | cons b r ih =>
  rw [List.length_cons, List.range_succ_eq_map, List.all_cons, List.all_map, List.all_cons]
  simp only [List.getD_cons_zero, id]
  congr 1
theorem bools_are : ∀ {bs : List Bool} {us : List Value}, Vals (bs.map V.bl) us → us = bs.map Value.bool
 | [], _, r => by cases r; rfl
 | b :: bs, _, r => by
  cases r with
  | cons r1 r2 =>
   cases r1
   rw [List.map_cons, bools_are r2]
theorem truth_bools {A : Around} (bs : List Bool) : TruthOf X.prog X.w A (fun i v => (bs.map Value.bool).toArray[i]? = some v) (fun i => bs.getD i false) := by
 intro i v s Q E h q
 have h' : (bs.map Value.bool)[i]? = some v := by simpa using h
 rw [List.getElem?_map] at h'
 cases e : bs[i]? with
 | none => rw [e] at h'; cases h'
 | some b =>
  rw [e] at h'
  have hv : v = .bool b := (Option.some.inj h').symm
  subst hv
  have hq : bs.getD i false = b := by rw [List.getD_eq_getElem?_getD, e]; rfl
  have q' : Q (bs.getD i false) s := q
  rw [hq] at q'
  exact wpAny_truthy_bool q'
def rAll (K : W.Frag) : List V → Hp → VK → Prop := fun xs H Q => ∃ (p : Addr) (bs : List Bool), xs = [.ref p] ∧ SqL K H p (bs.map V.bl) ∧ Q (.bl (bs.all id)) H
theorem call_all (hc : X.calm = true) : CallR X (.builtin "all") (rAll X.K) := by
 intro pins s σ H xs us Q I r h
 obtain ⟨p, bs, e, hq, q⟩ := h
 subst e
 obtain ⟨u, rfl, rx⟩ := vals1 r
 cases rx
 obtain ⟨its, rv, pl, hz⟩ := I.list hq
 have ei := bools_are rv
 subst ei
 have hne : p ≠ s.heap.objs.size := by
  obtain ⟨o, e, _⟩ := pl.isList
  exact Nat.ne_of_lt (Heap.lt_size e)
 refine call_all_walk (wpAny_pyIter_list pl.isList ⟨_, _, _, _, _, _, _, rfl, Walks.list (show X.A.in1.handled = none from I.ok.hd hc) _ p hne (bs.map Value.bool).toArray, ⟨⟨_, Heap.get?_push_size _ rfl, rfl, rfl⟩, pl.isList.push _⟩, truth_bools bs, fun h' tk kk => ?_⟩)
 have e2 : (List.range (bs.map Value.bool).toArray.size).all (fun i => bs.getD i false) = bs.all id := by
  rw [List.size_toArray, List.length_map]
  exact range_all bs
 rw [e2]
 refine ⟨.bl _, H, I.kept fun b o e => kk b o (fun z => ?_) (Heap.get?_push_of_some _ e), rfl, q⟩
 have z' : b = s.heap.objs.size := by simpa using z
 rw [z'] at e
 exact absurd (Heap.lt_size e) (Nat.lt_irrefl _)
mutual
inductive DatV (K : W.Frag) (H : Hp) : V → PyData → Prop
 | non : DatV K H .non .none
 | bl (b : Bool) : DatV K H (.bl b) (.bool b)
 | int (i : Int) : DatV K H (.int i) (.int i)
 | str (x : Str) : DatV K H (.str x) (.str x)
 | lst {a : Addr} {xs : List V} {ds : List PyData} : SqL K H a xs → DatVs K H xs ds → DatV K H (.ref a) (.list ds)
 | tup {a : Addr} {xs : List V} {ds : List PyData} : SqT K H a xs → DatVs K H xs ds → DatV K H (.ref a) (.tuple ds)
inductive DatVs (K : W.Frag) (H : Hp) : List V → List PyData → Prop
 | nil : DatVs K H [] []
 | cons {x : V} {d : PyData} {xs : List V} {ds : List PyData} : DatV K H x d → DatVs K H xs ds → DatVs K H (x :: xs) (d :: ds)
end
variable {pins : List (Addr × Obj)} {σ : St} {H : Hp} {s : Shared}
mutual
theorem DatV.reads (I : Inv X pins σ H s) : ∀ {v : V} {d : PyData} {u : Value}, DatV X.K H v d → RelV v u → ∃ as, Reads s.heap u d as
 | _, _, _, .non, r => by cases r; exact ⟨_, .none⟩
 | _, _, _, .bl b, r => by cases r; exact ⟨_, .bool b⟩
 | _, _, _, .int i, r => by obtain ⟨t, e⟩ := r; subst e; exact ⟨_, .int i t⟩
 | _, _, _, .str x, r => by obtain ⟨t, e⟩ := r; subst e; exact ⟨_, .str x t⟩
 | _, _, _, .lst hq hs, r => by
  cases r
  obtain ⟨its, rv, pl, hz⟩ := I.list hq
  obtain ⟨as, h⟩ := DatVs.reads I hs rv
  obtain ⟨o, ho, hc, n, hd⟩ := pl.isList
  exact ⟨_, .list ho hc hd (by simpa using h)⟩
 | _, _, _, .tup hq hs, r => by
  cases r
  obtain ⟨its, rv, pl, hz⟩ := I.tuple hq
  obtain ⟨as, h⟩ := DatVs.reads I hs rv
  obtain ⟨o, ho, hc, n, hd⟩ := pl
  exact ⟨_, .tuple ho hc hd (by simpa using h)⟩
theorem DatVs.reads (I : Inv X pins σ H s) : ∀ {vs : List V} {ds : List PyData} {us : List Value}, DatVs X.K H vs ds → Vals vs us → ∃ as, ReadsAll s.heap us ds as
 | _, _, _, .nil, r => by cases r; exact ⟨_, .nil⟩
 | _, _, _, .cons h t, r => by
  cases r with
  | cons r1 r2 =>
   obtain ⟨as, q1⟩ := DatV.reads I h r1
   obtain ⟨bs, q2⟩ := DatVs.reads I t r2
   exact ⟨_, .cons q1 q2⟩
end
def rEqD (K : W.Frag) (neg : Bool) : R2 := fun x y H Q => ∃ d e, DatV K H x d ∧ DatV K H y e ∧ shaped d = true ∧ shaped e = true ∧ noMix d e = true ∧ Q (.bl (if neg = true then !same d e else same d e)) H
theorem op_eqD (hu : X.A.units + 64 < cLine) : OpR X (compareOp .Eq) (rEqD X.K false) := by
 intro pins s σ H x y v u Q I rx ry h
 obtain ⟨d, e, h1, h2, h3, h4, h5, q⟩ := h
 obtain ⟨as, q1⟩ := h1.reads I rx
 obtain ⟨bs, q2⟩ := h2.reads I ry
 exact eq_dataH_same q1 q2 h3 h4 hu h5 ⟨.bl _, H, I, rfl, q⟩
theorem op_neD (hu : X.A.units + 64 < cLine) : OpR X (compareOp .NotEq) (rEqD X.K true) := by
 intro pins s σ H x y v u Q I rx ry h
 obtain ⟨d, e, h1, h2, h3, h4, h5, q⟩ := h
 obtain ⟨as, q1⟩ := h1.reads I rx
 obtain ⟨bs, q2⟩ := h2.reads I ry
 exact ne_dataH_same q1 q2 h3 h4 hu h5 ⟨.bl _, H, I, rfl, q⟩
end
structure ClsFn (K : W.Frag) (C : Addr) (m : Str) (f : Addr) : Prop where
 sp : W.specialIn K (.ref C) "__getattribute__" = some (some (.builtin "type.__getattribute__"))
 rd : W.readsIn K C (.type "type") = true
 fc : W.findCls K (.ref C) (.type "type") m = some (.val (.ref f))
 kp : W.keepIn K (.ref f) = true
section
variable {X : Cx} {CX : CXT} {k : Nat} {f C : Addr} {fd : FuncData} {ps : List Str} {sp : Sp} {dvs : List V} {ds : List Value} {E : XK} {x m : Str} {p pos apos : Pos} {e o : Expr} {es : List Expr} {ta : TE} {t : TA}
theorem pe_clsCall {pl : Sem Bool} (c : ClsFn X.K C m f) (F : FnOk X.prog X.w X.K X.mg X.base CX k f fd ps sp) (hr : Room k X.A) (hg : Gl X x) (hm : X.mg x = some (.ref C)) (hb : Binds X.K fd ps ds) (hd : Vals dvs ds) (hx : Passes CX X E) (ha : PA X (e :: es) t)
  (hdb : (x == ("__debug__" : Str)) = false := by decide) (hst : starEach (e :: es) X.env = (false, eval e X.env) :: starEach es X.env := by rfl) (hpl : (backTo pos (starEach es X.env)).any (·.1) = false := by rfl)
  (ht : eval (.Call (.Attribute (.Name x p) m apos) (e :: es) [] pos) X.env = (do
   let ov ← eval (.Name x p) X.env
   standAt apos.atName
   let (f, first) ← holding [ov] (getMethod ov m pl)
   callWith pos f first (backTo pos (starEach (e :: es) X.env)) (backToKw pos (keywordEach [] X.env))) := by rfl) :
  PE X (.Call (.Attribute (.Name x p) m apos) (e :: es) [] pos) (tCall sp dvs E t) := by
 intro pins s σ H Q I h
 refine W.methodCall_KW (pl := pl) (ld_glob I hg hm ?_ hdb) ht
 refine W.method_cls I.kIn c.sp (W.cls_value I.kIn c.rd c.fc rfl ?_)
 have I1 := I.tok (s.toks + 1)
 refine W.callWith_K (first := []) (h₀ := X.base) I.ok.mod.kin c.kp (thn (ha pos pins _ σ H _ I1 h) fun us s2 ⟨vs, H2, I2, r, q2⟩ => ⟨I2.kIn, ?_⟩) hst hpl
 exact run_fn F hr hb hd hx I2 r q2
end
theorem iteD {c A B : Prop} [Decidable c] (h1 : c → A) (h2 : ¬ c → B) : if decide c = true then A else B := by
 by_cases h : c
 ·rw [decide_eq_true h]; exact iteT (h1 h)
 ·rw [decide_eq_false h]; exact iteF (h2 h)
theorem iteND {c A B : Prop} [Decidable c] (h1 : ¬ c → A) (h2 : c → B) : if (!decide c) = true then A else B := by
 by_cases h : c
 ·rw [decide_eq_true h]; exact iteF (h2 h)
 ·rw [decide_eq_false h]; exact iteT (h1 h)
theorem iteB {b : Bool} {A B : Prop} (h1 : b = true → A) (h2 : b = false → B) : if b = true then A else B := by
 cases b with
 | true => exact iteT (h1 rfl)
 | false => exact iteF (h2 rfl)
theorem iteNB {b : Bool} {A B : Prop} (h1 : b = false → A) (h2 : b = true → B) : if (!b) = true then A else B := by
 cases b with
 | true => exact iteF (h2 rfl)
 | false => exact iteT (h1 rfl)
def scOk (sc out : Scope) (XN N : List Str) (idx : List Nat) : Bool :=
 decide (sc.kind = .function) && (sc.names.all (fun y => decide (y.2 ≠ .cell)) && (sc.names.all (fun y => decide (y.2 ≠ .local) || decide (sc.names.lookup y.1 = some .local)) &&
  (sc.names.all (fun y => decide (y.2 ≠ .free) || decide (out.names.lookup y.1 = some .cell)) && (decide (idx.length ≤ N.length) && (idx.zip N).all (fun p => decide (XN[p.1]? = some p.2) && decide (sc.names.lookup p.2 = some .free))))))
theorem ScC.of {X : Cx} {sc : Scope} {N : List Str} {idx : List Nat} (h : scOk sc X.env.scope X.N N idx = true) : ScC X sc N idx := by
 unfold scOk at h
 simp only [Bool.and_eq_true, decide_eq_true_eq, List.all_eq_true, Bool.or_eq_true] at h
 obtain ⟨h1, h2, h3, h4, h5, h6⟩ := h
 refine ⟨h1, h2, fun y hy e => ?_, fun y hy e => ?_, h5, fun k i x a b => ?_⟩
 ·rcases h3 y hy with z | z
  ·exact absurd e z
  ·exact z
 ·rcases h4 y hy with z | z
  ·exact absurd e z
  ·exact z
 ·have hm : (i, x) ∈ idx.zip N := by
   have : (idx.zip N)[k]? = some (i, x) := by rw [List.getElem?_zip_eq_some]; exact ⟨a, b⟩
   exact List.mem_of_getElem? this
  exact h6 (i, x) hm
end L2
namespace TL
open PySem PySem.Spec PyProof.Rows L2 L3
def kinds : List String := ["NoneType", "bool", "int", "str", "list", "tuple"]
def kinds2 : List String := ["int", "bool", "str", "tuple", "list"]
def isiB (T U : String) : Bool := T == U || (T == "bool" && U == "int")
theorem kit_eq (K : W.Frag) (T U : String) : W.kitOne K (.type T) (.type U) =
  (if (Value.type T == Value.type U) = true then some true else if W.kitMeta U = true then (fastBuiltinMro T).map (·.contains (.type U)) else none) := rfl
theorem kit_tab : ∀ T ∈ kinds, ∀ U ∈ kinds2, (if (Value.type T == Value.type U) = true then some true else if W.kitMeta U = true then (fastBuiltinMro T).map (·.contains (.type U)) else none) = some (isiB T U) := by decide +kernel
def tyName (H : Hp) : V → Option String
 | .non => some "NoneType"
 | .bl _ => some "bool"
 | .int _ => some "int"
 | .str _ => some "str"
 | .ref a => match H a with
  | some (.lst _) => some "list"
  | some (.tup _) => some "tuple"
  | _ => none
 | _ => none
theorem tyName_of {K : W.Frag} {H : Hp} {v : V} {T : String} (h : tyName H v = some T) : TyOf K H v (.type T) ∧ T ∈ kinds := by
 cases v with
 | non => cases h; exact ⟨.non, by decide⟩
 | bl b => cases h; exact ⟨.bl b, by decide⟩
 | int i => cases h; exact ⟨.int i, by decide⟩
 | str x => cases h; exact ⟨.str x, by decide⟩
 | ref a =>
  unfold tyName at h
  cases e : H a with
  | none => simp only [e] at h; cases h
  | some o =>
   cases o with
   | lst xs => simp only [e] at h; cases h; exact ⟨.lst e, by decide⟩
   | tup xs => simp only [e] at h; cases h; exact ⟨.tup e, by decide⟩
   | _ => simp only [e] at h; cases h
 | _ => cases h
theorem kitU {K : W.Frag} {H : Hp} {v : V} {T U : String} (h : tyName H v = some T) (hU : U ∈ kinds2) : W.kitOne K (.type T) (.type U) = some (isiB T U) := by
 rw [kit_eq]
 exact kit_tab T (tyName_of (K := K) h).2 U hU
theorem tyT {K : W.Frag} {H : Hp} {v : V} {T : String} (h : tyName H v = some T) : TyOf K H v (.type T) := (tyName_of h).1
theorem tyName_same {H H' : Hp} {v : V} {T : String} (s : Same H H') (h : tyName H v = some T) : tyName H' v = some T := by
 cases v with
 | ref a =>
  unfold tyName at h ⊢
  cases e : H a with
  | none => simp only [e] at h; cases h
  | some o => simp only [s a o e]; simp only [e] at h; exact h
 | _ => exact h
def isW : V → Bool
 | .int _ => true
 | _ => false
theorem isW_of {H : Hp} {v : V} {T : String} (h : tyName H v = some T) : (isiB T "int" && !isiB T "bool") = isW v := by
 cases v with
 | non => cases h; rfl
 | bl b => cases h; rfl
 | int i => cases h; rfl
 | str x => cases h; rfl
 | ref a =>
  unfold tyName at h
  cases e : H a with
  | none => simp only [e] at h; cases h
  | some o =>
   cases o with
   | lst xs => simp only [e] at h; cases h; rfl
   | tup xs => simp only [e] at h; cases h; rfl
   | _ => simp only [e] at h; cases h
 | _ => cases h
def boundsM (w : Str) : Option (List Int) :=
 if w = "put" then some [4, TOPi] else if w = "add" then some [4, 4] else if w = "set" then some [12, 4] else if w = "look" then some [4, 12] else if w = "swap" then some [4, 12]
 else if w = "clear" then some [] else if w = "skip" then some [4, 121] else none
def wIn : V → Int → Bool
 | .int i, b => decide (0 ≤ i) && decide (i < b)
 | _, _ => false
def stepOk : List V → Bool
 | .str w :: ps => match boundsM w with
  | none => false
  | some bs => decide (ps.length = bs.length) && (ps.zip bs).all fun p => wIn p.1 p.2
 | _ => false
def viewT (H : Hp) : V → Option (List V)
 | .ref a => match H a with
  | some (.tup xs) => some xs
  | _ => none
 | _ => none
def isStep (H : Hp) (v : V) : Bool := match viewT H v with
 | some xs => stepOk xs
 | none => false
theorem viewT_ref {H : Hp} {v : V} {xs : List V} (h : viewT H v = some xs) : ∃ a, v = .ref a ∧ H a = some (.tup xs) := by
 cases v with
 | ref a =>
  refine ⟨a, rfl, ?_⟩
  unfold viewT at h
  cases e : H a with
  | none => simp only [e] at h; cases h
  | some o =>
   cases o with
   | tup ys => simp only [e] at h; cases h; rfl
   | _ => simp only [e] at h; cases h
 | _ => cases h
theorem viewT_of {H : Hp} {a : Addr} {xs : List V} (h : H a = some (.tup xs)) : viewT H (.ref a) = some xs := by
 unfold viewT; simp only [h]
theorem tyName_tup {H : Hp} {a : Addr} {xs : List V} (h : H a = some (.tup xs)) : tyName H (.ref a) = some "tuple" := by
 unfold tyName; simp only [h]
theorem noView {H : Hp} {v : V} {T : String} (h : tyName H v = some T) : isiB T "tuple" = (viewT H v).isSome := by
 cases v with
 | non => cases h; rfl
 | bl b => cases h; rfl
 | int i => cases h; rfl
 | str x => cases h; rfl
 | ref a =>
  unfold tyName at h
  unfold viewT
  cases e : H a with
  | none => simp only [e] at h; cases h
  | some o =>
   cases o with
   | lst xs => simp only [e] at h ⊢; cases h; rfl
   | tup xs => simp only [e] at h ⊢; cases h; rfl
   | _ => simp only [e] at h; cases h
 | _ => cases h
theorem isiStr {H : Hp} {v : V} {T : String} (h : tyName H v = some T) : isiB T "str" = true ↔ ∃ x, v = .str x := by
 cases v with
 | str x => cases h; exact ⟨fun _ => ⟨x, rfl⟩, fun _ => rfl⟩
 | non => cases h; exact ⟨fun z => (by cases z), fun ⟨_, z⟩ => (by cases z)⟩
 | bl b => cases h; exact ⟨fun z => (by cases z), fun ⟨_, z⟩ => (by cases z)⟩
 | int i => cases h; exact ⟨fun z => (by cases z), fun ⟨_, z⟩ => (by cases z)⟩
 | ref a =>
  refine ⟨fun z => ?_, fun ⟨_, z⟩ => by cases z⟩
  unfold tyName at h
  cases e : H a with
  | none => simp only [e] at h; cases h
  | some o =>
   cases o with
   | lst xs => simp only [e] at h; cases h; cases z
   | tup xs => simp only [e] at h; cases h; cases z
   | _ => simp only [e] at h; cases h
 | _ => cases h
theorem same_new {H H' : Hp} {p : Addr} {o : HO} (s : Same H H') (h : H' p = none) : Same H (upd H' p o) := fun b u e => by
 rw [upd_ne (ne_of_none (s b u e) h)]
 exact s b u e
end TL
namespace TL
open PySem PySem.Spec PyProof.Rows L2 L3
structure Bl (mg : Str → Option Value) : Prop where
 isi : mg "isinstance" = none
 int : mg "int" = none
 bool : mg "bool" = none
 str : mg "str" = none
 tuple : mg "tuple" = none
 len : mg "len" = none
 all : mg "all" = none
 zip : mg "zip" = none
structure Cn (mg : Str → Option Value) : Prop where
 top : ∃ u, mg "TOP" = some u ∧ RelV (.int TOPi) u
 names : ∃ u, mg "NAMES" = some u ∧ RelV (.int 12) u
 regs : ∃ u, mg "REGISTERS" = some u ∧ RelV (.int 4) u
 long : ∃ u, mg "LONGEST" = some u ∧ RelV (.int 120) u
section
variable {P : Program} {w : World} {K : W.Frag} {mg : Str → Option Value} {base : Heap}
def spWhole : Sp := fun vs H Q _ => ∃ v T, vs = [v] ∧ tyName H v = some T ∧ Q (.bl (isW v)) H
theorem scWhole : FnScope ["thing"] ["thing"] (defScope sWhole) := ⟨rfl, rfl, rfl, by decide +kernel, rfl, by decide +kernel, by decide +kernel⟩
theorem ok_whole {f : Addr} {fd : FuncData} (F : Fun K "is_whole" "is_whole" sWhole f fd) (B : Bl mg) : FnOk P w K mg base CX0 1 f fd ["thing"] spWhole := by
 refine F.ok scWhole (fun vs H Q E h => ?_) (fun cdv A outer s H vs Q E hr h => ?_)
 ·obtain ⟨v, T, rfl, _⟩ := h
  rfl
 ·obtain ⟨v, T, rfl, ht, k⟩ := h
  refine ⟨_, pss_one (ps_ret (pe_and (pe_callB call_isi rfl B.isi boot_isinstance (pa_cons (pv 0) (pa_cons (pe_bltn (v := .ty "int") rfl B.int boot_int rfl) pa_nil)))
   (pe_one (pe_not (pe_callB call_isi rfl B.isi boot_isinstance (pa_cons (pv 0) (pa_cons (pe_bltn (v := .ty "bool") rfl B.bool boot_bool rfl) pa_nil))))))), ?_⟩
  have e := isW_of ht
  refine ⟨v, rfl, _, _, _, _, _, rfl, tyT ht, rfl, kitU ht (by decide), _, rfl, iteB (fun h1 => ?_) (fun h1 => ?_)⟩
  ·refine ⟨v, rfl, _, _, _, _, _, rfl, tyT ht, rfl, kitU ht (by decide), _, rfl, ?_⟩
   rw [h1, Bool.true_and] at e
   rw [e]
   exact k
  ·rw [h1, Bool.false_and] at e
   rw [e]
   exact k
def spBounds : Sp := fun vs H Q _ => ∃ x, vs = [.str x] ∧ (boundsM x = none → Q .non H) ∧ ∀ bs, boundsM x = some bs → ∀ p, H p = none → Q (.ref p) (upd H p (.lst (bs.map V.int)))
theorem scBounds : FnScope ["word"] ["word"] (defScope sBounds) := ⟨rfl, rfl, rfl, by decide +kernel, rfl, by decide +kernel, by decide +kernel⟩
theorem str_inj {x y : Str} (h : V.str x = V.str y) : x = y := by injection h
theorem ok_bounds {f : Addr} {fd : FuncData} (F : Fun K "bounds_of" "bounds_of" sBounds f fd) (C : Cn mg) : FnOk P w K mg base CX0 1 f fd ["word"] spBounds := by
 refine F.ok scBounds (fun vs H Q E h => ?_) (fun cdv A outer s H vs Q E hr h => ?_)
 ·obtain ⟨v, rfl, _⟩ := h
  rfl
 ·obtain ⟨x, rfl, k0, k1⟩ := h
  obtain ⟨uT, mT, rT⟩ := C.top
  obtain ⟨uN, mN, rN⟩ := C.names
  obtain ⟨uR, mR, rR⟩ := C.regs
  obtain ⟨uL, mL, rL⟩ := C.long
  refine ⟨_, pss_cons (ps_if (pt_cmpR op_eq (pv 0) pe_str (nomark _)) (pss_one (ps_ret (pe_lst (pa_cons (pe_glob rfl mR rR) (pa_cons (pe_glob rfl mT rT) pa_nil))))) pss_nil)
   (pss_cons (ps_if (pt_cmpR op_eq (pv 0) pe_str (nomark _)) (pss_one (ps_ret (pe_lst (pa_cons (pe_glob rfl mR rR) (pa_cons (pe_glob rfl mR rR) pa_nil))))) pss_nil)
   (pss_cons (ps_if (pt_cmpR op_eq (pv 0) pe_str (nomark _)) (pss_one (ps_ret (pe_lst (pa_cons (pe_glob rfl mN rN) (pa_cons (pe_glob rfl mR rR) pa_nil))))) pss_nil)
   (pss_cons (ps_if (PW.pt (pw_or (pt_cmpR op_eq (pv 0) pe_str (nomark _)) (pw_or1 (pt_cmpR op_eq (pv 0) pe_str (nomark _))))) (pss_one (ps_ret (pe_lst (pa_cons (pe_glob rfl mR rR) (pa_cons (pe_glob rfl mN rN) pa_nil))))) pss_nil)
   (pss_cons (ps_if (pt_cmpR op_eq (pv 0) pe_str (nomark _)) (pss_one (ps_ret (pe_lst pa_nil))) pss_nil)
   (pss_cons (ps_if (pt_cmpR op_eq (pv 0) pe_str (nomark _)) (pss_one (ps_ret (pe_lst (pa_cons (pe_glob rfl mR rR) (pa_cons (pe_op op_add (pe_glob rfl mL rL) pe_int) pa_nil))))) pss_nil)
   (pss_one (ps_ret pe_non))))))), ?_⟩
  refine ⟨_, rfl, rfl, _, rfl, iteD (fun e => ?_) (fun n1 => ?_)⟩
  ·cases str_inj e
   exact ⟨by decide, fun p hp => k1 [4, TOPi] (by unfold boundsM; rw [if_pos rfl]) p hp⟩
  refine ⟨_, rfl, rfl, _, rfl, iteD (fun e => ?_) (fun n2 => ?_)⟩
  ·cases str_inj e
   exact ⟨by decide, fun p hp => k1 [4, 4] (by unfold boundsM; rw [if_neg (by decide +kernel), if_pos rfl]) p hp⟩
  refine ⟨_, rfl, rfl, _, rfl, iteD (fun e => ?_) (fun n3 => ?_)⟩
  ·cases str_inj e
   exact ⟨by decide, fun p hp => k1 [12, 4] (by unfold boundsM; rw [if_neg (by decide +kernel), if_neg (by decide +kernel), if_pos rfl]) p hp⟩
  refine ⟨_, rfl, rfl, _, rfl, iteD (fun e => ?_) (fun n4 => ?_)⟩
  ·cases str_inj e
   exact iteT ⟨by decide, fun p hp => k1 [4, 12] (by unfold boundsM; rw [if_neg (by decide +kernel), if_neg (by decide +kernel), if_neg (by decide +kernel), if_pos rfl]) p hp⟩
  refine ⟨_, rfl, rfl, _, rfl, iteD (fun e => ?_) (fun n5 => ?_)⟩
  ·cases str_inj e
   exact ⟨by decide, fun p hp => k1 [4, 12] (by unfold boundsM; rw [if_neg (by decide +kernel), if_neg (by decide +kernel), if_neg (by decide +kernel), if_neg (by decide +kernel), if_pos rfl]) p hp⟩
  refine ⟨_, rfl, rfl, _, rfl, iteD (fun e => ?_) (fun n6 => ?_)⟩
  ·cases str_inj e
   exact ⟨by decide, fun p hp => k1 [] (by unfold boundsM; rw [if_neg (by decide +kernel), if_neg (by decide +kernel), if_neg (by decide +kernel), if_neg (by decide +kernel), if_neg (by decide +kernel), if_pos rfl]) p hp⟩
  refine ⟨_, rfl, rfl, _, rfl, iteD (fun e => ?_) (fun n7 => ?_)⟩
  ·cases str_inj e
   exact ⟨_, _, rfl, rfl, by decide, fun p hp => k1 [4, 121] (by unfold boundsM; rw [if_neg (by decide +kernel), if_neg (by decide +kernel), if_neg (by decide +kernel), if_neg (by decide +kernel), if_neg (by decide +kernel), if_neg (by decide +kernel), if_pos rfl]) p hp⟩
  refine k0 ?_
  have nn : ∀ {y : Str}, ¬ V.str x = V.str y → ¬ x = y := fun h e => h (by rw [e])
  unfold boundsM
  rw [if_neg (nn n1), if_neg (nn n2), if_neg (nn n3), if_neg (nn n4), if_neg (nn n5), if_neg (nn n6), if_neg (nn n7)]
def spIsStep : Sp := fun vs H Q _ => ∃ v T, vs = [v] ∧ tyName H v = some T ∧ (∀ xs, viewT H v = some xs → xs.length ≤ 1000 ∧ ∀ x ∈ xs, ∃ T, tyName H x = some T) ∧ ∀ H', Same H H' → Q (.bl (isStep H v)) H'
theorem scIsStep : FnScope ["told", "bounds"] ["told"] (defScope sIsStep) := ⟨rfl, rfl, rfl, by decide +kernel, rfl, by decide +kernel, by decide +kernel⟩
theorem sIx1 (y : V) (ps : List V) : HT.sIx (y :: ps).length 0 (some 1) = 1 := by
 simp only [HT.sIx, List.length_cons]
 first | omega | (simp; done) | (split <;> omega)
theorem cut1 (y : V) (ps : List V) : cutV (y :: ps) (some 1) none = ps := by
 unfold cutV
 rw [sIx1]
 show List.take (HT.sIx (y :: ps).length (y :: ps).length none - 1) ps = ps
 exact List.take_of_length_le (by simp [HT.sIx])
theorem bounds_len {x : Str} {bs : List Int} (h : boundsM x = some bs) : bs.length ≤ 2 := by
 unfold boundsM at h
 repeat (first | (split at h; (cases h; decide)) | (cases h; done))
theorem nd_pb : (["part", "bound"] : List Str).Nodup := by decide +kernel
theorem ok_isStep {f fW fB : Addr} {fd fdW fdB : FuncData} (F : Fun K "is_step" "is_step" sIsStep f fd) (B : Bl mg) (C : Cn mg)
  (FW : Fun K "is_whole" "is_whole" sWhole fW fdW) (bW : Binds K fdW ["thing"] []) (mW : mg "is_whole" = some (.ref fW)) (FB : Fun K "bounds_of" "bounds_of" sBounds fB fdB) (bB : Binds K fdB ["word"] []) (mB : mg "bounds_of" = some (.ref fB)) :
  FnOk P w K mg base CX0 2 f fd ["told"] spIsStep := by
 have GW : FnOk P w K mg base CX0 1 fW fdW ["thing"] spWhole := ok_whole FW B
 have GB : FnOk P w K mg base CX0 1 fB fdB ["word"] spBounds := ok_bounds FB C
 refine F.ok scIsStep (fun vs H Q E h => ?_) (fun cdv A outer s H vs Q E hr h => ?_)
 ·obtain ⟨v, T, rfl, _⟩ := h
  rfl
 ·obtain ⟨v, T, rfl, ht, hx, k⟩ := h
  refine ⟨_, pss_cons (ps_if (PW.pt (pw_or (pt_not (pt_val (pe_callB call_isi rfl B.isi boot_isinstance (pa_cons (pv 0) (pa_cons (pe_bltn (v := .ty "tuple") rfl B.tuple boot_tuple rfl) pa_nil)))))
    (pw_or (pt_cmpR op_eq (pe_callB call_len_seq rfl B.len PySem.boot_len (pa_cons (pv 0) pa_nil)) pe_int (nomark _))
    (pw_or1 (pt_not (pt_val (pe_callB call_isi rfl B.isi boot_isinstance (pa_cons (pe_ix ix_tup (pv 0) pe_int (fun _ _ => rfl)) (pa_cons (pe_bltn (v := .ty "str") rfl B.str boot_str rfl) pa_nil)))))))))
    (pss_one (ps_ret pe_bl)) pss_nil)
   (pss_cons (ps_set (i := 1) scIsStep.nd rfl (Or.inl rfl) (pe_call GB hr rfl mB FB.kp bB .nil pass0 (pa_cons (pe_ix ix_tup (pv 0) pe_int (fun _ _ => rfl)) pa_nil)))
   (pss_cons (ps_if (PW.pt (pw_or (pt_cmpR op_isN (pv 1) pe_non (nomark _))
    (pw_or1 (pt_cmpR op_ne (pe_callB call_len_seq rfl B.len PySem.boot_len (pa_cons (pv 0) pa_nil)) (pe_op op_add (pe_callB call_len_seq rfl B.len PySem.boot_len (pa_cons (pv 1) pa_nil)) pe_int) (nomark _)))))
    (pss_one (ps_ret pe_bl)) pss_nil)
   (pss_one (ps_ret (pe_callB (call_all rfl) rfl B.all boot_all (pa_cons (pe_comp (N := ["part", "bound"]) (idx := []) rfl (ScC.of (by kernel_rfl)) (gkeep_pair (Nat.zero_le _) (Nat.zero_le _))
    (pi_zip (b1 := false) (b2 := true) rfl B.zip (pa_cons (pe_slice sl_tup (pv 0) (po_some pe_int) po_none) (pa_cons (pv 1) pa_nil)))
    (fun _ _ _ _ => pg_tup rfl (pgs_cons (pg_name (i := 0) nd_pb rfl (Or.inl rfl) (.inr rfl)) (pgs_cons (pg_name (i := 1) nd_pb rfl (Or.inl rfl) (.inr rfl)) pgs_nil)))
    (fun _ _ _ _ => pts_nil)
    (fun _ _ _ _ => pe_and (pe_call GW hr rfl mW FW.kp bW .nil pass0 (pa_cons (pv 0) pa_nil)) (pe_one (pe_chain op_le op_lt pe_int (pv 0) (pv 1))))) pa_nil)))))), ?_⟩
  cases hv : viewT H v with
  | none =>
   have hi : isiB T "tuple" = false := by rw [noView ht, hv]; rfl
   have hst : isStep H v = false := by unfold isStep; rw [hv]
   have kk := k H (Same.refl H)
   rw [hst] at kk
   refine ⟨v, rfl, _, _, _, _, _, rfl, tyT ht, rfl, kitU ht (by decide), _, rfl, ?_⟩
   rw [hi]
   exact iteT (iteT kk)
  | some xs =>
   obtain ⟨a, e0, ha⟩ := viewT_ref hv
   subst e0
   obtain ⟨hl, hty⟩ := hx xs hv
   have hi : isiB T "tuple" = true := by rw [noView ht, hv]; rfl
   have kk : ∀ H', Same H H' → Q (.bl (stepOk xs)) H' := fun H' s => by
    have q := k H' s
    unfold isStep at q
    rw [hv] at q
    exact q
   refine ⟨_, rfl, _, _, _, _, _, rfl, tyT ht, rfl, kitU ht (by decide), _, rfl, ?_⟩
   rw [hi]
   refine iteF ?_
   cases xs with
   | nil =>
    refine ⟨_, rfl, a, [], rfl, .inr (SqT.of ha), rfl, _, rfl, iteD (fun e => ?_) (fun n0 => absurd rfl n0)⟩
    exact iteT (kk H (Same.refl H))
   | cons y ps =>
    refine ⟨_, rfl, a, y :: ps, rfl, .inr (SqT.of ha), rfl, _, rfl, iteD (fun e => ?_) (fun n0 => ?_)⟩
    ·injection e with e
     exact absurd e (by simp only [List.length_cons]; omega)
    obtain ⟨Ty, hy⟩ := hty y List.mem_cons_self
    refine ⟨_, rfl, a, y :: ps, 0, y, rfl, rfl, SqT.of ha, atI_nat (j := 0) rfl, _, _, _, _, _, rfl, tyT hy, rfl, kitU hy (by decide), _, rfl, ?_⟩
    refine iteNB (fun h1 => ?_) (fun h1 => ?_)
    ·have e : stepOk (y :: ps) = false := by
      cases y with
      | str x => exact absurd ((isiStr hy).mpr ⟨x, rfl⟩) (by rw [h1]; exact Bool.false_ne_true)
      | _ => rfl
     have q := kk H (Same.refl H)
     rw [e] at q
     exact q
    obtain ⟨x0, e0⟩ := (isiStr hy).mp h1
    subst e0
    refine ⟨_, rfl, a, _, 0, .str x0, rfl, rfl, SqT.of ha, atI_nat (j := 0) rfl, x0, rfl, fun hb => ?_, fun bs hb p hp => ?_⟩
    ·refine ⟨_, rfl, rfl, _, rfl, iteD (fun _ => ?_) (fun n => absurd rfl n)⟩
     have e : stepOk (.str x0 :: ps) = false := by
      show (match boundsM x0 with | none => false | some bs => decide (ps.length = bs.length) && (ps.zip bs).all fun p => wIn p.1 p.2) = false
      rw [hb]
     have q := kk H (Same.refl H)
     rw [e] at q
     exact iteT q
    have s1 : Same H (upd H p (.lst (bs.map V.int))) := same_new (Same.refl H) hp
    have ha1 := s1 _ _ ha
    have eS : stepOk (.str x0 :: ps) = (decide (ps.length = bs.length) && (ps.zip bs).all fun p => wIn p.1 p.2) := by
     show (match boundsM x0 with | none => false | some bs => decide (ps.length = bs.length) && (ps.zip bs).all fun p => wIn p.1 p.2) = _
     rw [hb]
    rw [eS] at kk
    refine ⟨_, rfl, rfl, _, rfl, iteD (fun z => by cases z) (fun _ => ?_)⟩
    refine ⟨_, rfl, a, _, rfl, .inr (SqT.of ha1), _, rfl, p, _, rfl, .inl (SqL.of upd_same), _, _, rfl, rfl, rfl, _, rfl, iteND (fun ne => ?_) (fun eq => ?_)⟩
    ·have e : decide (ps.length = bs.length) = false := decide_eq_false fun z => ne (by rw [List.length_cons, List.length_map, z]; rfl)
     rw [e, Bool.false_and] at kk
     exact kk _ s1
    have hlen : ps.length = bs.length := by
     injection eq with eq
     rw [List.length_cons, List.length_map] at eq
     omega
    rw [decide_eq_true hlen, Bool.true_and] at kk
    refine ⟨_, rfl, 1, rfl, a, _, rfl, SqT.of ha1, ?_, fun q hq => ?_⟩
    ·intro z
     have z1 := z.1
     rw [sIx1] at z1
     cases z1
    rw [cut1]
    have s2 : Same H (upd (upd H p (.lst (bs.map V.int))) q (.tup ps)) := same_new s1 hq
    have nqp : p ≠ q := ne_of_none upd_same hq
    have hp2 : upd (upd H p (.lst (bs.map V.int))) q (.tup ps) p = some (.lst (bs.map V.int)) := by rw [upd_ne nqp]; exact upd_same
    refine ⟨_, rfl, q, p, ps, bs.map V.int, rfl, SqT.of upd_same, SqL.of hp2, ?_⟩
    generalize hH3 : upd (upd H p (.lst (bs.map V.int))) q (.tup ps) = H3 at s2 hp2
    have hq3 : H3 q = some (.tup ps) := by rw [← hH3]; exact upd_same
    refine compW_of (n := bs.length) (fun i ys H' => i ≤ bs.length ∧ Same H3 H' ∧ ys = ((ps.zip bs).take i).map fun z => V.bl (wIn z.1 z.2)) ?_ ?_ ?_ ?_ ?_ ?_ ?_
    ·have hln := bounds_len hb
     exact Nat.le_of_lt (small1000 (by omega))
    ·exact ⟨Nat.zero_le _, Same.refl _, rfl⟩
    ·rintro i ys H' ⟨_, _, e⟩
     rw [e, List.length_map, List.length_take]
     omega
    ·rintro i ys H' hi ⟨_, s3, _⟩
     exact ⟨ps, bs.map V.int, ps[i]'(by omega), V.int bs[i], SqT.of (s3 _ _ hq3), SqL.of (s3 _ _ hp2), by simp [hlen, hi], by simp [hi]⟩
    ·rintro ys H' ⟨_, s3, _⟩
     exact ⟨ps, bs.map V.int, SqT.of (s3 _ _ hq3), SqL.of (s3 _ _ hp2), .inr (by rw [List.length_map]; exact Nat.le_refl _)⟩
    ·rintro i ys H' hi ⟨_, s3, e⟩ v H'' ⟨r, x, y, hr0, ev, eH, hxy⟩
     obtain ⟨hx1, hy1⟩ := hxy ps (bs.map V.int) (SqT.of (s3 _ _ hq3)) (SqL.of (s3 _ _ hp2))
     subst ev
     subst eH
     have hb1 : y = V.int bs[i] := by
      rw [List.getElem?_map, List.getElem?_eq_getElem hi] at hy1
      exact (Option.some.inj hy1).symm
     subst hb1
     have s4 : Same H3 (upd H' r (.tup [x, V.int bs[i]])) := same_new s3 hr0
     obtain ⟨Tx, hTx⟩ := hty x (List.mem_cons_of_mem _ (List.mem_of_getElem? hx1))
     have hTx4 := tyName_same (s2.trans s4) hTx
     have zi : (ps.zip bs)[i]? = some (x, bs[i]) := by
      rw [List.getElem?_zip_eq_some]
      exact ⟨hx1, List.getElem?_eq_getElem hi⟩
     have fin : ∀ c, c = wIn x bs[i] → i + 1 ≤ bs.length ∧ Same H3 (upd H' r (.tup [x, V.int bs[i]])) ∧ ys ++ [V.bl c] = ((ps.zip bs).take (i + 1)).map fun z => V.bl (wIn z.1 z.2) := fun c hc => by
      refine ⟨hi, s4, ?_⟩
      rw [List.take_add_one, zi, List.map_append, ← e, hc]
      rfl
     refine ⟨r, [x, V.int bs[i]], rfl, SqT.of upd_same, rfl, x, [V.int bs[i]], rfl, V.int bs[i], [], rfl, rfl, ?_⟩
     dsimp only [tYes]
     rw [if_pos rfl]
     refine ⟨_, rfl, x, Tx, rfl, hTx4, _, rfl, ?_⟩
     cases x with
     | int j =>
      refine iteT ⟨_, rfl, 0, j, rfl, rfl, _, rfl, iteD (fun h0 => ?_) (fun h0 => ?_)⟩
      ·refine ⟨_, rfl, j, bs[i], rfl, rfl, ?_⟩
       exact fin _ (by show _ = (decide (0 ≤ j) && decide (j < bs[i])); rw [decide_eq_true h0, Bool.true_and])
      ·exact fin _ (by show _ = (decide (0 ≤ j) && decide (j < bs[i])); rw [decide_eq_false h0, Bool.false_and])
     | _ => exact iteF (fin _ rfl)
    ·rintro ys H' ⟨_, s3, e⟩
     refine ⟨?_, fun r hr0 => ?_⟩
     ·rw [e, List.length_map, List.length_take]
      have hln := bounds_len hb
      have := small1000 (n := bs.length) (by omega)
      omega
     have ey : ys = (((ps.zip bs).map fun z => wIn z.1 z.2)).map V.bl := by
      rw [e, List.take_of_length_le (by rw [List.length_zip]; omega), List.map_map]
      rfl
     refine ⟨r, (ps.zip bs).map fun z => wIn z.1 z.2, rfl, SqL.of (by rw [upd_same, ey]), ?_⟩
     rw [List.all_map]
     exact kk _ (same_new (s2.trans s3) hr0)
def spInit (K : W.Frag) : Sp := fun vs H Q _ => ∃ x C dx fs a xs, vs = [.ref x, .ref a] ∧ H x = some (.ins C dx fs) ∧ Cls K C ∧ NoAttr K C "parts" ∧ fs.length < 900 ∧ H a = some (.tup xs) ∧ Q .non (upd H x (.ins C dx (putF "parts" (.ref a) fs)))
theorem scInit : FnScope ["self", "told"] ["self", "told"] (defScope sInit) := ⟨rfl, rfl, rfl, by decide +kernel, rfl, by decide +kernel, by decide +kernel⟩
theorem ok_init {f : Addr} {fd : FuncData} (F : Fun K "__init__" "Step.__init__" sInit f fd) (B : mg "tuple" = none) : FnOk P w K mg base CX0 1 f fd ["self", "told"] (spInit K) := by
 refine F.ok scInit (fun vs H Q E h => ?_) (fun cdv A outer s H vs Q E hr h => ?_)
 ·obtain ⟨x, C, dx, fs, a, xs, rfl, _⟩ := h
  rfl
 ·obtain ⟨x, C, dx, fs, a, xs, rfl, hx, cl, nP, hl, ha, k⟩ := h
  refine ⟨_, pss_one (ps_fld (pv 0) (pe_callTy call_tuple_of rfl B boot_tuple (pa_cons (pv 1) pa_nil)) rfl), ?_⟩
  exact ⟨_, rfl, a, xs, rfl, .inr ⟨SqT.of ha, _, rfl, x, C, dx, fs, rfl, hx, cl, nP, by omega, k⟩⟩
theorem len2 (f : Str) (u : V) : (putF f u []).length < 1000 := by
 have h1 := length_putF f u []
 have h3 : ([] : List (Str × V)).length = 0 := rfl
 omega
theorem len3 (f g : Str) (u v : V) : (putF f u (putF g v [])).length < 1000 := by
 have h1 := length_putF f u (putF g v [])
 have h2 := length_putF g v []
 have h3 : ([] : List (Str × V)).length = 0 := rfl
 omega
structure InitT (K : W.Frag) (mg : Str → Option Value) (cS fI : Addr) (fdI : FuncData) : Prop where
 fn : Fun K "__init__" "Step.__init__" sInit fI fdI
 bi : Binds K fdI ["self", "told"] []
 cf : ClsFn K cS "__init__" fI
 at_ : mg "Step" = some (.ref cS)
 tup : mg "tuple" = none
def spI (C : Addr) (f1 f2 : Str) : Sp := fun vs H Q _ => ∃ x dx a xs v1 v2, vs = [.ref x, .ref a] ∧ H x = some (.ins C dx []) ∧ H a = some (.tup xs) ∧ xs[1]? = some v1 ∧ xs[2]? = some v2 ∧
 Q .non (upd H x (.ins C dx (putF f2 v2 (putF f1 v1 (putF "parts" (.ref a) [])))))
theorem scPutI : FnScope ["self", "told"] ["self", "told"] (defScope sPutI) := ⟨rfl, rfl, rfl, by decide +kernel, rfl, by decide +kernel, by decide +kernel⟩
theorem ok_PutI {f fI cS C : Addr} {fd fdI : FuncData} (F : Fun K "__init__" "Put.__init__" sPutI f fd) (I : InitT K mg cS fI fdI) (cl : Cls K C) (nP : NoAttr K C "parts") (n1 : NoAttr K C "reg") (n2 : NoAttr K C "number") :
  FnOk P w K mg base CX0 2 f fd ["self", "told"] (spI C "reg" "number") := by
 have GI : FnOk P w K mg base CX0 1 fI fdI ["self", "told"] (spInit K) := ok_init I.fn I.tup
 refine F.ok scPutI (fun vs H Q E h => ?_) (fun cdv A outer s H vs Q E hr h => ?_)
 ·obtain ⟨x, dx, a, xs, v1, v2, rfl, _⟩ := h
  rfl
 ·obtain ⟨x, dx, a, xs, v1, v2, rfl, hx, ha, e1, e2, k⟩ := h
  refine ⟨_, pss_cons (ps_expr (pe_clsCall I.cf GI hr rfl I.at_ I.bi .nil pass0 (pa_cons (pv 0) (pa_cons (pv 1) pa_nil))))
   (pss_cons (ps_fld (pv 0) (pe_ix ix_tup (pv 1) pe_int (fun _ _ => rfl)) rfl)
   (pss_one (ps_fld (pv 0) (pe_ix ix_tup (pv 1) pe_int (fun _ _ => rfl)) rfl))), ?_⟩
  have nxa : a ≠ x := ne_of ha hx (by intro z; cases z)
  refine ⟨_, rfl, _, rfl, x, C, dx, [], a, xs, rfl, hx, cl, nP, by decide, ha, ?_⟩
  refine ⟨_, rfl, a, xs, 1, v1, rfl, rfl, SqT.of (by rw [upd_ne nxa]; exact ha), atI_nat (j := 1) e1, _, rfl, x, C, dx, _, rfl, upd_same, cl, n1, len2 _ _, ?_⟩
  refine ⟨_, rfl, a, xs, 2, v2, rfl, rfl, SqT.of (by rw [upd_ne nxa, upd_ne nxa]; exact ha), atI_nat (j := 2) e2, _, rfl, x, C, dx, _, rfl, upd_same, cl, n2, len3 _ _ _ _, ?_⟩
  rw [upd_upd, upd_upd]
  exact k
theorem scAddI : FnScope ["self", "told"] ["self", "told"] (defScope sAddI) := ⟨rfl, rfl, rfl, by decide +kernel, rfl, by decide +kernel, by decide +kernel⟩
theorem ok_AddI {f fI cS C : Addr} {fd fdI : FuncData} (F : Fun K "__init__" "Add.__init__" sAddI f fd) (I : InitT K mg cS fI fdI) (cl : Cls K C) (nP : NoAttr K C "parts") (n1 : NoAttr K C "reg") (n2 : NoAttr K C "other") :
  FnOk P w K mg base CX0 2 f fd ["self", "told"] (spI C "reg" "other") := by
 have GI : FnOk P w K mg base CX0 1 fI fdI ["self", "told"] (spInit K) := ok_init I.fn I.tup
 refine F.ok scAddI (fun vs H Q E h => ?_) (fun cdv A outer s H vs Q E hr h => ?_)
 ·obtain ⟨x, dx, a, xs, v1, v2, rfl, _⟩ := h
  rfl
 ·obtain ⟨x, dx, a, xs, v1, v2, rfl, hx, ha, e1, e2, k⟩ := h
  refine ⟨_, pss_cons (ps_expr (pe_clsCall I.cf GI hr rfl I.at_ I.bi .nil pass0 (pa_cons (pv 0) (pa_cons (pv 1) pa_nil))))
   (pss_cons (ps_fld (pv 0) (pe_ix ix_tup (pv 1) pe_int (fun _ _ => rfl)) rfl)
   (pss_one (ps_fld (pv 0) (pe_ix ix_tup (pv 1) pe_int (fun _ _ => rfl)) rfl))), ?_⟩
  have nxa : a ≠ x := ne_of ha hx (by intro z; cases z)
  refine ⟨_, rfl, _, rfl, x, C, dx, [], a, xs, rfl, hx, cl, nP, by decide, ha, ?_⟩
  refine ⟨_, rfl, a, xs, 1, v1, rfl, rfl, SqT.of (by rw [upd_ne nxa]; exact ha), atI_nat (j := 1) e1, _, rfl, x, C, dx, _, rfl, upd_same, cl, n1, len2 _ _, ?_⟩
  refine ⟨_, rfl, a, xs, 2, v2, rfl, rfl, SqT.of (by rw [upd_ne nxa, upd_ne nxa]; exact ha), atI_nat (j := 2) e2, _, rfl, x, C, dx, _, rfl, upd_same, cl, n2, len3 _ _ _ _, ?_⟩
  rw [upd_upd, upd_upd]
  exact k
theorem scSetI : FnScope ["self", "told"] ["self", "told"] (defScope sSetI) := ⟨rfl, rfl, rfl, by decide +kernel, rfl, by decide +kernel, by decide +kernel⟩
theorem ok_SetI {f fI cS C : Addr} {fd fdI : FuncData} (F : Fun K "__init__" "Set.__init__" sSetI f fd) (I : InitT K mg cS fI fdI) (cl : Cls K C) (nP : NoAttr K C "parts") (n1 : NoAttr K C "name") (n2 : NoAttr K C "reg") :
  FnOk P w K mg base CX0 2 f fd ["self", "told"] (spI C "name" "reg") := by
 have GI : FnOk P w K mg base CX0 1 fI fdI ["self", "told"] (spInit K) := ok_init I.fn I.tup
 refine F.ok scSetI (fun vs H Q E h => ?_) (fun cdv A outer s H vs Q E hr h => ?_)
 ·obtain ⟨x, dx, a, xs, v1, v2, rfl, _⟩ := h
  rfl
 ·obtain ⟨x, dx, a, xs, v1, v2, rfl, hx, ha, e1, e2, k⟩ := h
  refine ⟨_, pss_cons (ps_expr (pe_clsCall I.cf GI hr rfl I.at_ I.bi .nil pass0 (pa_cons (pv 0) (pa_cons (pv 1) pa_nil))))
   (pss_cons (ps_fld (pv 0) (pe_ix ix_tup (pv 1) pe_int (fun _ _ => rfl)) rfl)
   (pss_one (ps_fld (pv 0) (pe_ix ix_tup (pv 1) pe_int (fun _ _ => rfl)) rfl))), ?_⟩
  have nxa : a ≠ x := ne_of ha hx (by intro z; cases z)
  refine ⟨_, rfl, _, rfl, x, C, dx, [], a, xs, rfl, hx, cl, nP, by decide, ha, ?_⟩
  refine ⟨_, rfl, a, xs, 1, v1, rfl, rfl, SqT.of (by rw [upd_ne nxa]; exact ha), atI_nat (j := 1) e1, _, rfl, x, C, dx, _, rfl, upd_same, cl, n1, len2 _ _, ?_⟩
  refine ⟨_, rfl, a, xs, 2, v2, rfl, rfl, SqT.of (by rw [upd_ne nxa, upd_ne nxa]; exact ha), atI_nat (j := 2) e2, _, rfl, x, C, dx, _, rfl, upd_same, cl, n2, len3 _ _ _ _, ?_⟩
  rw [upd_upd, upd_upd]
  exact k
theorem scLookI : FnScope ["self", "told"] ["self", "told"] (defScope sLookI) := ⟨rfl, rfl, rfl, by decide +kernel, rfl, by decide +kernel, by decide +kernel⟩
theorem ok_LookI {f fI cS C : Addr} {fd fdI : FuncData} (F : Fun K "__init__" "Look.__init__" sLookI f fd) (I : InitT K mg cS fI fdI) (cl : Cls K C) (nP : NoAttr K C "parts") (n1 : NoAttr K C "reg") (n2 : NoAttr K C "name") :
  FnOk P w K mg base CX0 2 f fd ["self", "told"] (spI C "reg" "name") := by
 have GI : FnOk P w K mg base CX0 1 fI fdI ["self", "told"] (spInit K) := ok_init I.fn I.tup
 refine F.ok scLookI (fun vs H Q E h => ?_) (fun cdv A outer s H vs Q E hr h => ?_)
 ·obtain ⟨x, dx, a, xs, v1, v2, rfl, _⟩ := h
  rfl
 ·obtain ⟨x, dx, a, xs, v1, v2, rfl, hx, ha, e1, e2, k⟩ := h
  refine ⟨_, pss_cons (ps_expr (pe_clsCall I.cf GI hr rfl I.at_ I.bi .nil pass0 (pa_cons (pv 0) (pa_cons (pv 1) pa_nil))))
   (pss_cons (ps_fld (pv 0) (pe_ix ix_tup (pv 1) pe_int (fun _ _ => rfl)) rfl)
   (pss_one (ps_fld (pv 0) (pe_ix ix_tup (pv 1) pe_int (fun _ _ => rfl)) rfl))), ?_⟩
  have nxa : a ≠ x := ne_of ha hx (by intro z; cases z)
  refine ⟨_, rfl, _, rfl, x, C, dx, [], a, xs, rfl, hx, cl, nP, by decide, ha, ?_⟩
  refine ⟨_, rfl, a, xs, 1, v1, rfl, rfl, SqT.of (by rw [upd_ne nxa]; exact ha), atI_nat (j := 1) e1, _, rfl, x, C, dx, _, rfl, upd_same, cl, n1, len2 _ _, ?_⟩
  refine ⟨_, rfl, a, xs, 2, v2, rfl, rfl, SqT.of (by rw [upd_ne nxa, upd_ne nxa]; exact ha), atI_nat (j := 2) e2, _, rfl, x, C, dx, _, rfl, upd_same, cl, n2, len3 _ _ _ _, ?_⟩
  rw [upd_upd, upd_upd]
  exact k
theorem scSwapI : FnScope ["self", "told"] ["self", "told"] (defScope sSwapI) := ⟨rfl, rfl, rfl, by decide +kernel, rfl, by decide +kernel, by decide +kernel⟩
theorem ok_SwapI {f fI cS C : Addr} {fd fdI : FuncData} (F : Fun K "__init__" "Swap.__init__" sSwapI f fd) (I : InitT K mg cS fI fdI) (cl : Cls K C) (nP : NoAttr K C "parts") (n1 : NoAttr K C "reg") (n2 : NoAttr K C "name") :
  FnOk P w K mg base CX0 2 f fd ["self", "told"] (spI C "reg" "name") := by
 have GI : FnOk P w K mg base CX0 1 fI fdI ["self", "told"] (spInit K) := ok_init I.fn I.tup
 refine F.ok scSwapI (fun vs H Q E h => ?_) (fun cdv A outer s H vs Q E hr h => ?_)
 ·obtain ⟨x, dx, a, xs, v1, v2, rfl, _⟩ := h
  rfl
 ·obtain ⟨x, dx, a, xs, v1, v2, rfl, hx, ha, e1, e2, k⟩ := h
  refine ⟨_, pss_cons (ps_expr (pe_clsCall I.cf GI hr rfl I.at_ I.bi .nil pass0 (pa_cons (pv 0) (pa_cons (pv 1) pa_nil))))
   (pss_cons (ps_fld (pv 0) (pe_ix ix_tup (pv 1) pe_int (fun _ _ => rfl)) rfl)
   (pss_one (ps_fld (pv 0) (pe_ix ix_tup (pv 1) pe_int (fun _ _ => rfl)) rfl))), ?_⟩
  have nxa : a ≠ x := ne_of ha hx (by intro z; cases z)
  refine ⟨_, rfl, _, rfl, x, C, dx, [], a, xs, rfl, hx, cl, nP, by decide, ha, ?_⟩
  refine ⟨_, rfl, a, xs, 1, v1, rfl, rfl, SqT.of (by rw [upd_ne nxa]; exact ha), atI_nat (j := 1) e1, _, rfl, x, C, dx, _, rfl, upd_same, cl, n1, len2 _ _, ?_⟩
  refine ⟨_, rfl, a, xs, 2, v2, rfl, rfl, SqT.of (by rw [upd_ne nxa, upd_ne nxa]; exact ha), atI_nat (j := 2) e2, _, rfl, x, C, dx, _, rfl, upd_same, cl, n2, len3 _ _ _ _, ?_⟩
  rw [upd_upd, upd_upd]
  exact k
theorem scSkipI : FnScope ["self", "told"] ["self", "told"] (defScope sSkipI) := ⟨rfl, rfl, rfl, by decide +kernel, rfl, by decide +kernel, by decide +kernel⟩
theorem ok_SkipI {f fI cS C : Addr} {fd fdI : FuncData} (F : Fun K "__init__" "Skip.__init__" sSkipI f fd) (I : InitT K mg cS fI fdI) (cl : Cls K C) (nP : NoAttr K C "parts") (n1 : NoAttr K C "reg") (n2 : NoAttr K C "place") :
  FnOk P w K mg base CX0 2 f fd ["self", "told"] (spI C "reg" "place") := by
 have GI : FnOk P w K mg base CX0 1 fI fdI ["self", "told"] (spInit K) := ok_init I.fn I.tup
 refine F.ok scSkipI (fun vs H Q E h => ?_) (fun cdv A outer s H vs Q E hr h => ?_)
 ·obtain ⟨x, dx, a, xs, v1, v2, rfl, _⟩ := h
  rfl
 ·obtain ⟨x, dx, a, xs, v1, v2, rfl, hx, ha, e1, e2, k⟩ := h
  refine ⟨_, pss_cons (ps_expr (pe_clsCall I.cf GI hr rfl I.at_ I.bi .nil pass0 (pa_cons (pv 0) (pa_cons (pv 1) pa_nil))))
   (pss_cons (ps_fld (pv 0) (pe_ix ix_tup (pv 1) pe_int (fun _ _ => rfl)) rfl)
   (pss_one (ps_fld (pv 0) (pe_ix ix_tup (pv 1) pe_int (fun _ _ => rfl)) rfl))), ?_⟩
  have nxa : a ≠ x := ne_of ha hx (by intro z; cases z)
  refine ⟨_, rfl, _, rfl, x, C, dx, [], a, xs, rfl, hx, cl, nP, by decide, ha, ?_⟩
  refine ⟨_, rfl, a, xs, 1, v1, rfl, rfl, SqT.of (by rw [upd_ne nxa]; exact ha), atI_nat (j := 1) e1, _, rfl, x, C, dx, _, rfl, upd_same, cl, n1, len2 _ _, ?_⟩
  refine ⟨_, rfl, a, xs, 2, v2, rfl, rfl, SqT.of (by rw [upd_ne nxa, upd_ne nxa]; exact ha), atI_nat (j := 2) e2, _, rfl, x, C, dx, _, rfl, upd_same, cl, n2, len3 _ _ _ _, ?_⟩
  rw [upd_upd, upd_upd]
  exact k
structure Adr where
 (fW fB fS fO fI fPut fAdd fSet fLook fSwap fSkip cStep cPut cAdd cSet cLook cSwap cClear cSkip : Addr)
 (fdW fdB fdS fdO fdI fdPut fdAdd fdSet fdLook fdSwap fdSkip : FuncData)
structure StepsT (K : W.Frag) (mg : Str → Option Value) (t : Adr) : Prop where
 bl : Bl mg
 cn : Cn mg
 fnW : Fun K "is_whole" "is_whole" sWhole t.fW t.fdW
 bW : Binds K t.fdW ["thing"] []
 mW : mg "is_whole" = some (.ref t.fW)
 fnB : Fun K "bounds_of" "bounds_of" sBounds t.fB t.fdB
 bB : Binds K t.fdB ["word"] []
 mB : mg "bounds_of" = some (.ref t.fB)
 fnS : Fun K "is_step" "is_step" sIsStep t.fS t.fdS
 bS : Binds K t.fdS ["told"] []
 mS : mg "is_step" = some (.ref t.fS)
 fnO : Fun K "step_of" "step_of" sStepOf t.fO t.fdO
 bO : Binds K t.fdO ["told"] []
 mO : mg "step_of" = some (.ref t.fO)
 init : InitT K mg t.cStep t.fI t.fdI
 clClear : Cls K t.cClear
 nPClear : NoAttr K t.cClear "parts"
 mkClear : Mk K t.cClear t.fI
 mgClear : mg "Clear" = some (.ref t.cClear)
 clPut : Cls K t.cPut
 nPPut : NoAttr K t.cPut "parts"
 n1Put : NoAttr K t.cPut "reg"
 n2Put : NoAttr K t.cPut "number"
 mkPut : Mk K t.cPut t.fPut
 mgPut : mg "Put" = some (.ref t.cPut)
 fnPut : Fun K "__init__" "Put.__init__" sPutI t.fPut t.fdPut
 biPut : Binds K t.fdPut ["self", "told"] []
 clAdd : Cls K t.cAdd
 nPAdd : NoAttr K t.cAdd "parts"
 n1Add : NoAttr K t.cAdd "reg"
 n2Add : NoAttr K t.cAdd "other"
 mkAdd : Mk K t.cAdd t.fAdd
 mgAdd : mg "Add" = some (.ref t.cAdd)
 fnAdd : Fun K "__init__" "Add.__init__" sAddI t.fAdd t.fdAdd
 biAdd : Binds K t.fdAdd ["self", "told"] []
 clSet : Cls K t.cSet
 nPSet : NoAttr K t.cSet "parts"
 n1Set : NoAttr K t.cSet "name"
 n2Set : NoAttr K t.cSet "reg"
 mkSet : Mk K t.cSet t.fSet
 mgSet : mg "Set" = some (.ref t.cSet)
 fnSet : Fun K "__init__" "Set.__init__" sSetI t.fSet t.fdSet
 biSet : Binds K t.fdSet ["self", "told"] []
 clLook : Cls K t.cLook
 nPLook : NoAttr K t.cLook "parts"
 n1Look : NoAttr K t.cLook "reg"
 n2Look : NoAttr K t.cLook "name"
 mkLook : Mk K t.cLook t.fLook
 mgLook : mg "Look" = some (.ref t.cLook)
 fnLook : Fun K "__init__" "Look.__init__" sLookI t.fLook t.fdLook
 biLook : Binds K t.fdLook ["self", "told"] []
 clSwap : Cls K t.cSwap
 nPSwap : NoAttr K t.cSwap "parts"
 n1Swap : NoAttr K t.cSwap "reg"
 n2Swap : NoAttr K t.cSwap "name"
 mkSwap : Mk K t.cSwap t.fSwap
 mgSwap : mg "Swap" = some (.ref t.cSwap)
 fnSwap : Fun K "__init__" "Swap.__init__" sSwapI t.fSwap t.fdSwap
 biSwap : Binds K t.fdSwap ["self", "told"] []
 clSkip : Cls K t.cSkip
 nPSkip : NoAttr K t.cSkip "parts"
 n1Skip : NoAttr K t.cSkip "reg"
 n2Skip : NoAttr K t.cSkip "place"
 mkSkip : Mk K t.cSkip t.fSkip
 mgSkip : mg "Skip" = some (.ref t.cSkip)
 fnSkip : Fun K "__init__" "Skip.__init__" sSkipI t.fSkip t.fdSkip
 biSkip : Binds K t.fdSkip ["self", "told"] []
def clsW (t : Adr) (x : Str) : Addr := if x = "put" then t.cPut else if x = "add" then t.cAdd else if x = "set" then t.cSet else if x = "look" then t.cLook else if x = "swap" then t.cSwap else if x = "clear" then t.cClear else t.cSkip
def fldsW (v : V) (x : Str) (ps : List V) : List (Str × V) :=
 if x = "put" then putF "number" (ps.getD 1 .non) (putF "reg" (ps.getD 0 .non) (putF "parts" v []))
 else if x = "add" then putF "other" (ps.getD 1 .non) (putF "reg" (ps.getD 0 .non) (putF "parts" v []))
 else if x = "set" then putF "reg" (ps.getD 1 .non) (putF "name" (ps.getD 0 .non) (putF "parts" v []))
 else if x = "look" then putF "name" (ps.getD 1 .non) (putF "reg" (ps.getD 0 .non) (putF "parts" v []))
 else if x = "swap" then putF "name" (ps.getD 1 .non) (putF "reg" (ps.getD 0 .non) (putF "parts" v []))
 else if x = "clear" then putF "parts" v []
 else putF "place" (ps.getD 1 .non) (putF "reg" (ps.getD 0 .non) (putF "parts" v []))
theorem len_two {α : Type} {l : List α} (h : l.length = 2) : ∃ a b, l = [a, b] := by
 cases l with
 | nil => cases h
 | cons a t =>
  obtain ⟨b, e⟩ := List.length_eq_one_iff.mp (show t.length = 1 from Nat.succ.inj h)
  exact ⟨a, b, by rw [e]⟩
theorem two_of {x : Str} {ps : List V} (h : stepOk (.str x :: ps) = true) {b c : Int} {bs : List Int} (hb : boundsM x = some bs) (hl : bs = [b, c] := by rfl) : ∃ v1 v2, ps = [v1, v2] := by
 subst hl
 have h' : (match boundsM x with | none => false | some bs => decide (ps.length = bs.length) && (ps.zip bs).all fun p => wIn p.1 p.2) = true := h
 rw [hb] at h'
 simp only [Bool.and_eq_true, decide_eq_true_eq] at h'
 exact len_two h'.1
theorem last_word {x : Str} {ps : List V} (h : stepOk (.str x :: ps) = true) (n1 : ¬ x = "put") (n2 : ¬ x = "add") (n3 : ¬ x = "set") (n4 : ¬ x = "look") (n5 : ¬ x = "swap") (n6 : ¬ x = "clear") : x = "skip" := by
 apply Classical.byContradiction
 intro n7
 have e : boundsM x = none := by
  unfold boundsM
  rw [if_neg n1, if_neg n2, if_neg n3, if_neg n4, if_neg n5, if_neg n6, if_neg n7]
 have h' : (match boundsM x with | none => false | some bs => decide (ps.length = bs.length) && (ps.zip bs).all fun p => wIn p.1 p.2) = true := h
 rw [e] at h'
 cases h'
theorem scStepOf : FnScope ["told", "word"] ["told"] (defScope sStepOf) := ⟨rfl, rfl, rfl, by decide +kernel, rfl, by decide +kernel, by decide +kernel⟩
end
end TL
namespace L2
open PySem
end L2
namespace L2
open PySem PySem.Spec PyProof.Rows L3
def ExcO (h : Heap) (e : Addr) (cls : Value) (dd : Option Addr) (tb : Value) : Prop :=
 ∃ oe vs a0, h.get? e = some oe ∧ oe.cls = cls ∧ oe.dict = dd ∧ oe.data = .fields vs ∧ vs[0]? = some a0 ∧ vs[1]? = some tb ∧ (cls ≠ .ref chNT → vs[2]? = some .none)
def TbAt (h : Heap) (e T : Addr) (fl : Value) : Prop := T ≠ e ∧ ∃ oT ts, h.get? T = some oT ∧ oT.data = .fields ts ∧ ts[3]? = some fl
def Fly (h : Heap) (e : Addr) (cls : Value) (dd : Option Addr) (tb : Option Addr) : Prop :=
 ExcO h e cls dd (tb.elim .none Value.ref) ∧ ∀ T, tb = some T → TbAt h e T .none
def Held (h : Heap) (e : Addr) (cls : Value) (dd : Option Addr) (T : Addr) (fl : Value) : Prop := ExcO h e cls dd (.ref T) ∧ TbAt h e T fl
theorem dict_mapF (o : Obj) (f : Array Value → Array Value) : (o.mapFields f).dict = o.dict := by
 obtain ⟨c, d, dt, s⟩ := o
 cases dt <;> rfl
section
variable {M : Model} {A : Around} {E : Value → Shared → Prop} {s : Shared} {base : Heap} {env : Env} {outer : List Env} {L e : Addr} {cls : Value} {dd : Option Addr} {Q : Unit → Shared → Prop}
theorem entry_core {head : Value} {had : Bool} {oe : Obj} {vs : Array Value} {a0 : Value} (hfr : A.frames = some (env :: outer)) (hl : s.heap.FunFrames base (env :: outer)) (hf : env.frame = some L) (q : s.heap.get? e = some oe) (hc : oe.cls = cls) (hdd : oe.dict = dd)
  (hd : oe.data = .fields vs) (h0 : vs[0]? = some a0) (hsz : 1 < vs.size) (hcx : cls ≠ .ref chNT → vs[2]? = some .none)
  (k : ∀ h' T, (∀ b o, b ∉ frs (env :: outer) → b ≠ e → s.heap.get? b = some o → h'.get? b = some o) → (∀ b o, s.heap.get? b = some o → b ≠ e → ∃ sl, h'.get? b = some { o with slots := sl }) → s.heap.objs.size ≤ T →
   Held h' e cls dd T (rawInt L) → Q () { s with heap := h' }) :
  wpAny M A (do let a ← frameOf env; let pl ← entryPlaceOf L had; let b ← EntryCells.newEntry head a .none (rawInt L) .none pl; setField (.ref e) 1 b) Q E s := by
 have hne : e ∉ frs (env :: outer) := fun z => by
  obtain ⟨_, o, ho, nf⟩ := hl.mem z
  rw [q] at ho; cases ho; exact nf vs hd
 refine wpAny_bind (wpAny_frameOf_fun hfr hl hf fun h1 so => ?_)
 refine wpAny_bind (wpAny_entryPlaceOf fun pl hp => ?_)
 unfold EntryCells.newEntry newFields
 refine wpAny_bind (wpAny_newObj_type ?_ (hp.sizeOk5 _ _ _ _ _))
 have q1 : h1.get? e = some oe := (so.2.1 e hne).trans q
 generalize hz : ({ cls := .type "traceback", dict := none, data := .fields ([head, .ref L, .none, rawInt L, .none] ++ (if pl.isEmpty then List.replicate 6 Value.none else pl)).toArray } : Obj) = ot
 have q2 : (h1.push ot).get? e = some oe := Heap.get?_push_of_some _ q1
 refine wpAny_setField q2 hd hsz ?_
 have nT : h1.objs.size ≠ e := Nat.ne_of_gt (Heap.lt_size q1)
 have d3 := Obj.data_mapFields hd (·.setIfInBounds 1 (Value.ref h1.objs.size))
 have e3 := Heap.get?_update_self (Obj.mapFields (·.setIfInBounds 1 (Value.ref h1.objs.size))) q2 (Obj.isFreed_of_fields d3)
 have fr : ot.isFreed = false := by rw [← hz]; rfl
 have t3 : ((h1.push ot).update e (Obj.mapFields (·.setIfInBounds 1 (Value.ref h1.objs.size)))).get? h1.objs.size = some ot := by
  rw [Heap.get?_update_other _ _ (Ne.symm nT)]
  exact Heap.get?_push_size h1 fr
 have kp : ∀ b o, b ≠ e → h1.get? b = some o → ((h1.push ot).update e (Obj.mapFields (·.setIfInBounds 1 (Value.ref h1.objs.size)))).get? b = some o := fun b o n z => by
  rw [Heap.get?_update_other _ _ (Ne.symm n)]
  exact Heap.get?_push_of_some _ z
 refine k _ h1.objs.size (fun b o hb n z => kp b o n ((so.2.1 b hb).trans z)) (fun b o z n => ?_) (Nat.le_of_eq so.1.symm) ⟨⟨_, _, a0, e3, ?_, ?_, d3, ?_, ?_, fun z => by rw [Array.getElem?_setIfInBounds_ne (by decide)]; exact hcx z⟩, nT, ot, _, t3, by rw [← hz], ?_⟩
 ·obtain ⟨sl, z1⟩ := so.2.2 b o z
  exact ⟨sl, kp b _ n z1⟩
 ·rw [Obj.cls_mapFields]; exact hc
 ·rw [dict_mapF]; exact hdd
 ·rw [Array.getElem?_setIfInBounds_ne (by decide)]; exact h0
 ·simp [hsz]
 ·first | (simp; done) | (rcases hp with rfl | ⟨_, _, _, _, _, _, _, rfl⟩ <;> simp)
theorem note_core {tb : Option Addr} (hfr : A.frames = some (env :: outer)) (hl : s.heap.FunFrames base (env :: outer)) (hf : env.frame = some L) (x : Fly s.heap e cls dd tb)
  (k : ∀ h' T, (∀ b o, b ∉ frs (env :: outer) → b ≠ e → tb ≠ some b → s.heap.get? b = some o → h'.get? b = some o) → (∀ b o, s.heap.get? b = some o → b ≠ e → tb ≠ some b → ∃ sl, h'.get? b = some { o with slots := sl }) → s.heap.objs.size ≤ T →
   Held h' e cls dd T (rawInt L) → Q () { s with heap := h' }) : wpAny M A (noteFrame (.ref e) env) Q E s := by
 obtain ⟨⟨oe, vs, a0, q, hc, hdd, hd, h0, h1, hcx⟩, ht⟩ := x
 have hsz : 1 < vs.size := (Array.getElem?_eq_some_iff.mp h1).1
 unfold noteFrame
 simp only [hf]
 cases tb with
 | none =>
  refine wpAny_bind (wpAny_field q hd h1 ?_)
  rw [if_neg (by decide)]
  exact entry_core hfr hl hf q hc hdd hd h0 hsz hcx fun h' T a b c d => k h' T (fun x o y z _ => a x o y z) (fun x o y z _ => b x o y z) c d
 | some T0 =>
  obtain ⟨nT, oT, ts, qT, dT, t3⟩ := ht T0 rfl
  refine wpAny_bind (wpAny_field q hd h1 ?_)
  show wpAny M A (if (Value.ref T0 != Value.none) = true then _ else _) Q E s
  rw [if_pos (by simp)]
  refine wpAny_bind (wpAny_field qT dT t3 ?_)
  rw [if_neg (show ¬ ((Value.none == rawInt L) = true) by simp [rawInt])]
  refine wpAny_bind (wpAny_setField qT dT (Array.getElem?_eq_some_iff.mp t3).1 ?_)
  have oth : ∀ b, b ≠ T0 → (s.heap.update T0 (Obj.mapFields (·.setIfInBounds 3 Value.none))).get? b = s.heap.get? b := fun b n => Heap.get?_update_other _ _ (Ne.symm n)
  refine entry_core (s := { s with heap := s.heap.update T0 (Obj.mapFields (·.setIfInBounds 3 Value.none)) }) hfr (hl.of_keeps fun b o z nf => ⟨o, (oth b fun w => ?_).trans z, rfl⟩) hf ((oth e (Ne.symm nT)).trans q) hc hdd hd h0 hsz hcx fun h' T a b c d => ?_
  ·rw [w, qT] at z; cases z; exact nf ts dT
  ·refine k h' T (fun x o y z n w => a x o y z ((oth x fun v => n (by rw [v])).trans w)) (fun x o w z n => b x o ((oth x fun v => n (by rw [v])).trans w) z) ?_ d
   have c' : (s.heap.update T0 (Obj.mapFields (·.setIfInBounds 3 Value.none))).objs.size ≤ T := c
   rw [Heap.size_after_update] at c'
   exact c'
theorem flight_core {T : Addr} {fl : Value} (x : Held s.heap e cls dd T fl) (k : ∀ h', (∀ b o, b ≠ T → s.heap.get? b = some o → h'.get? b = some o) → Fly h' e cls dd (some T) → Q () { s with heap := h' }) :
  wpAny M A (setFlight (.ref e) none) Q E s := by
 obtain ⟨⟨oe, vs, a0, q, hc, hdd, hd, h0, h1, hcx⟩, nT, oT, ts, qT, dT, t3⟩ := x
 have s3 : 3 < ts.size := (Array.getElem?_eq_some_iff.mp t3).1
 unfold setFlight
 refine wpAny_bind (wpAny_field q hd h1 ?_)
 rw [if_pos (show (Value.ref T != Value.none) = true by simp)]
 have oth : ∀ b, b ≠ T → (s.heap.update T (Obj.mapFields (·.setIfInBounds 3 ((none : Option Addr).elim Value.none fun f => rawInt f)))).get? b = s.heap.get? b := fun b n => Heap.get?_update_other _ _ (Ne.symm n)
 refine wpAny_setField qT dT s3 (k _ (fun b o n z => (oth b n).trans z) ⟨⟨oe, vs, a0, (oth e (Ne.symm nT)).trans q, hc, hdd, hd, h0, h1, hcx⟩, fun T' z => ?_⟩)
 cases z
 exact ⟨nT, _, _, Heap.get?_update_self _ qT (Obj.isFreed_of_fields (Obj.data_mapFields dT _)), Obj.data_mapFields dT _, by simp [s3]⟩
end
end L2
namespace L2
open PySem PySem.Spec PyProof.Rows L3
def CXE (P : Program) (w : World) : CXT := fun outer H s E e s' => ∃ ea c dd T H', e = .ref ea ∧ s'.os = s.os ∧ AllBare s'.gens ∧ Un (frs outer) [] H H' s.heap s'.heap ∧ HOk P w H' s'.heap ∧ Fly s'.heap ea c dd (some T) ∧
 s.heap.objs.size ≤ ea ∧ s.heap.objs.size ≤ T ∧ H' ea = none ∧ H' T = none ∧ E c dd H'
structure XState (X : Cx) (pins : List (Addr × Obj)) (σ : St) (H : Hp) (s : Shared) (ea : Addr) (c : Value) (dd tb : Option Addr) : Prop where
 inv : Inv X pins σ H s
 fly : Fly s.heap ea c dd tb
 fe : FpOk X pins H ea
 ft : ∀ T, tb = some T → FpOk X pins H T
abbrev WX := St → XK
def Lifts (X : Cx) (W : WX) : Prop := ∀ (pins : List (Addr × Obj)) (σ : St) (H : Hp) (s : Shared) (ea : Addr) (c : Value) (dd tb : Option Addr), XState X pins σ H s ea c dd tb → W σ c dd H → X.xe (.ref ea) s
section
variable {X : Cx} {pins : List (Addr × Obj)} {σ : St} {H : Hp} {s : Shared}
theorem hok_slots {h' : Heap} {ch : List Addr} (I : Inv X pins σ H s) (hc : ∀ b ∈ ch, H b = none) (k : ∀ b o, b ∉ frs X.stack → b ∉ ch → s.heap.get? b = some o → h'.get? b = some o) : HOk X.prog X.w H h' := fun b u e => by
 refine (I.hok b u e).stay (fun d v hd q => k d v (fun z => ?_) (fun z => ?_) q) (fun _ q => q) fun _ _ q => q
 ·have n := I.stkFree d z
  rcases hd with w | w
  ·rw [w, e] at n; cases n
  ·rw [w] at n; cases n
 ·have n := hc d z
  rcases hd with w | w
  ·rw [w, e] at n; cases n
  ·rw [w] at n; cases n
theorem lifts_fn {P : Program} {w : World} {K : PySem.W.Frag} {mg : Str → Option Value} {base : Heap} {N : List Str} {qual : Str} {scope : Scope} {f : Addr} {cd : Value} {A : Around} {outer : List Env} {s0 : Shared} {H0 : Hp} {E : XK} :
  Lifts (cxOf (CXE P w) P w K mg base N qual scope f cd A outer s0 H0 E) (fun _ => E) := by
 intro pins σ H s ea c dd tb x hE
 show wpAny (model P w) (A.deeper (envOfC qual scope s0.heap.objs.size f cd)) (leaving (envOfC qual scope s0.heap.objs.size f cd) (.ref ea)) (fun _ s'' => CXE P w outer H0 s0 E (.ref ea) s'') (fun e' s'' => CXE P w outer H0 s0 E e' s'') s
 have I := x.inv
 have eaN : s0.heap.objs.size ≤ ea := by
  rcases x.fe.2.2.2.1 with z | z
  ·exact absurd (show ea ∈ ([] : List Addr) from z) (by simp)
  ·exact z
 have tN : ∀ T, tb = some T → s0.heap.objs.size ≤ T := fun T z => by
  rcases (x.ft T z).2.2.2.1 with y | y
  ·exact absurd (show T ∈ ([] : List Addr) from y) (by simp)
  ·exact y
 unfold leaving
 refine wpAny_bind (note_core (base := base) I.ok.frames I.stack rfl x.fly fun h1 T k1 k2 hT hd1 => ?_)
 refine flight_core hd1 fun h2 k3 fl2 => ?_
 have lt0 : ∀ {b : Addr} {o : Obj}, s0.heap.get? b = some o → b < s0.heap.objs.size := fun e => Heap.lt_size e
 have sN : s0.heap.objs.size ≤ s.heap.objs.size := I.sz
 have nT0 : ∀ {b : Addr}, b < s0.heap.objs.size → b ≠ T := fun h z => absurd (Nat.lt_of_lt_of_le h (Nat.le_trans sN hT)) (by rw [z]; exact Nat.lt_irrefl _)
 have nE0 : ∀ {b : Addr}, b < s0.heap.objs.size → b ≠ ea := fun h z => absurd (Nat.lt_of_lt_of_le h eaN) (by rw [z]; exact Nat.lt_irrefl _)
 have nB0 : ∀ {b : Addr}, b < s0.heap.objs.size → tb ≠ some b := fun h z => absurd (Nat.lt_of_lt_of_le h (tN _ z)) (Nat.lt_irrefl _)
 have nL0 : ∀ {b : Addr}, b < s0.heap.objs.size → b ∉ frs outer → b ∉ frs (envOfC qual scope s0.heap.objs.size f cd :: outer) := fun h z y => by
  rcases I.stkSub _ y |> List.mem_cons.mp with u | u
  ·exact absurd h (by rw [u]; exact Nat.lt_irrefl _)
  ·exact z u
 have nsT : ∀ {b : Addr} {o : Obj}, s.heap.get? b = some o → b ≠ T := fun e z => absurd (Nat.lt_of_lt_of_le (Heap.lt_size e) hT) (by rw [z]; exact Nat.lt_irrefl _)
 have hok2 : HOk P w H h2 := by
  refine hok_slots (ch := ea :: tb.toList) I (fun b hb => ?_) fun b o hb hc e => k3 b o (nsT e) (k1 b o hb (fun z => hc (by rw [z]; exact List.mem_cons_self)) (fun z => hc (List.mem_cons_of_mem _ (by rw [z]; simp))) e)
  rcases List.mem_cons.mp hb with z | z
  ·rw [z]; exact x.fe.1
  ·cases tb with
   | none => simp at z
   | some T0 =>
    have z' : b = T0 := by simpa using z
    rw [z']; exact (x.ft T0 rfl).1
 refine ⟨ea, c, dd, T, H, rfl, I.os, I.bare, ⟨fun b o e n hb hx => ?_, fun b o e n hb hx => ?_, I.base.free, fun b o e hx => ?_, I.base.tups, I.base.frzs, I.base.tbls⟩, hok2, fl2, eaN, Nat.le_trans sN hT, x.fe.1, I.hok.fresh hT, hE⟩
 ·have l := lt0 e
  exact k3 b o (nT0 l) (k1 b o (nL0 l hb) (nE0 l) (nB0 l) (I.base.keep b o e n hb hx))
 ·have l := lt0 e
  obtain ⟨sl, q⟩ := I.base.slot b o e n hb hx
  obtain ⟨sl', q'⟩ := k2 b _ q (nE0 l) (nB0 l)
  exact ⟨sl', k3 b _ (nT0 l) q'⟩
 ·have l := lt0 e
  obtain ⟨o', q⟩ := I.base.there b o e hx
  obtain ⟨sl', q'⟩ := k2 b _ q (nE0 l) (nB0 l)
  exact ⟨_, k3 b _ (nT0 l) q'⟩
theorem xstate_of {E : XK} {e : Value} {s' : Shared} (I : Inv X pins σ H s) (h : CXE X.prog X.w X.stack H s E e s') : ∃ ea c dd T H', e = .ref ea ∧ XState X pins σ H' s' ea c dd (some T) ∧ E c dd H' := by
 obtain ⟨ea, c, dd, T, H', rfl, os, bare, un, hok, fl, l1, l2, n1, n2, q⟩ := h
 exact ⟨ea, c, dd, T, H', rfl, ⟨I.call' os un hok bare (fun b z => absurd z (by simp)), fl, I.fpOk l1 n1, fun T' z => by cases z; exact I.fpOk l2 n2⟩, q⟩
end
def tCallX (sp : Sp) (dvs : List V) (W : WX) (t : TA) : TE := fun σ H Q => t σ H fun vs H1 => sp (vs ++ dvs) H1 Q (W σ)
section
variable {X : Cx} {k : Nat} {f C : Addr} {fd : FuncData} {ps : List Str} {sp : Sp} {dvs : List V} {ds : List Value} {W : WX} {x m : Str} {p pos apos : Pos} {e o : Expr} {es : List Expr} {ta : TE} {t : TA} {P : Program} {w : World}
theorem run_fnX {pins : List (Addr × Obj)} {σ : St} {H : Hp} {s : Shared} {Q : VK} {us : List Value} {vs : List V} (F : FnOk X.prog X.w X.K X.mg X.base (CXE X.prog X.w) k f fd ps sp) (hr : Room k X.A) (hb : Binds X.K fd ps ds) (hd : Vals dvs ds) (hx : Lifts X W)
  (I : Inv X pins σ H s) (r : Vals vs us) (h : sp (vs ++ dvs) H Q (W σ)) : wpAny (model X.prog X.w) X.A (call (.ref f) us) (EP X pins σ Q) X.xe s := by
 have r2 : Vals (vs ++ dvs) (us ++ ds) := r.append hd
 have hl : (us ++ ds).length = ps.length := by rw [← r2.length]; exact F.len _ _ _ _ h
 refine wpAny_call (codeAny_mono (F.run X.A X.stack s H ⟨us, []⟩ (us ++ ds) (vs ++ dvs) Q (W σ) hr I.env0 (hb s us I.kIn hl) r2 h) fun r s' hq => ?_)
 cases r with
 | error e =>
  obtain ⟨ea, c, dd, T, H', rfl, x, hE⟩ := xstate_of I hq
  exact hx _ _ _ _ _ _ _ _ x hE
 | ok fl =>
  cases fl with
  | ret u => exact I.after hq
  | next => exact False.elim hq
  | brk => exact False.elim hq
  | cont => exact False.elim hq
theorem pe_callX (F : FnOk P w X.K X.mg X.base (CXE P w) k f fd ps sp) (hr : Room k X.A) (hL : Lifts X W) (hg : Gl X x) (hm : X.mg x = some (.ref f)) (hk : PySem.W.keepIn X.K (.ref f) = true) (hb : Binds X.K fd ps ds) (hd : Vals dvs ds)
  (ha : PA X (e :: es) t) (hP : X.prog = P := by rfl) (hw : X.w = w := by rfl) (hdb : (x == ("__debug__" : Str)) = false := by decide) (he : starEach (e :: es) X.env = (false, eval e X.env) :: starEach es X.env := by rfl) (hpl : (backTo pos (starEach es X.env)).any (·.1) = false := by rfl) :
  PE X (.Call (.Name x p) (e :: es) [] pos) (tCallX sp dvs W t) := by
 subst hP hw
 intro pins s σ H Q I h
 refine wpAny_Call_Name_kw (ld_glob I hg hm ?_ hdb)
 refine PySem.W.callWith_K (h₀ := X.base) I.ok.mod.kin hk (thn (ha pos pins s σ H _ I h) fun us s1 ⟨vs, H1, I1, r, q⟩ => ⟨I1.kIn, ?_⟩) he hpl
 exact run_fnX F hr hb hd hL I1 r q
end
section
variable {P : Program} {w : World} {K : PySem.W.Frag} {mg : Str → Option Value} {base : Heap}
theorem Fun.okX {x qual : Str} {st : Stmt} {f : Addr} {fd : FuncData} {N ps : List Str} {k : Nat} {sp : Sp} (F : Fun K x qual st f fd) (S : FnScope N ps (defScope st)) (len : ∀ vs H Q E, sp vs H Q E → vs.length = ps.length)
  (hbody : ∀ (cdv : Value) (A : Around) (outer : List Env) (s : Shared) (H : Hp) (vs : List V) (Q : VK) (E : XK), Room k (A.deeper (envOfC qual (defScope st) s.heap.objs.size f cdv)) →
   Lifts (cxOf (CXE P w) P w K mg base N qual (defScope st) f cdv A outer s H E) (fun _ => E) →
   PassesOwn (model P w) (A.deeper (envOfC qual (defScope st) s.heap.objs.size f cdv)) (envOfC qual (defScope st) s.heap.objs.size f cdv) (cxOf (CXE P w) P w K mg base N qual (defScope st) f cdv A outer s H E).xe → sp vs H Q E →
   ∃ t, PSs (cxOf (CXE P w) P w K mg base N qual (defScope st) f cdv A outer s H E) (defBody st) t ∧ t { nx := fun _ H' => Q .non H', rt := Q } (start N vs) H) : FnOk P w K mg base (CXE P w) (k + 1) f fd ps sp := by
 obtain ⟨oc, od, kV, doc, pm, an, cdv, ct, osl, rfl, lk, hcd⟩ := F.ex
 exact fn_of lk hcd S len fun A outer s H vs Q E hr hsp => hbody cdv A outer s H vs Q E hr lifts_fn PassesOwn.leaving hsp
end
end L2
namespace L2
open PySem PySem.Spec PyProof.Rows L3
open Sem (wp)
def XAt (h : Heap) (C : Addr) (oi : Option Value) : Prop := ∃ nm q N bs bm hdct sn sub ab col dd k0 k1 k2 k3 k5 mN, h.get? C = some (excClassObj nm q C N bs bm hdct sn sub ab col dd k0 k1 k2 k3 k5 "ValueError.__new__") ∧ h.Ns N mN ∧ mN "__init__" = oi ∧ OwnTail h bmVE bm
theorem XAt.keeps {h h' : Heap} {C : Addr} {oi : Option Value} (x : XAt h C oi) (k : ∀ b o, h.get? b = some o → h'.get? b = some o) : XAt h' C oi := by
 obtain ⟨nm, q, N, bs, bm, hdct, sn, sub, ab, col, dd, k0, k1, k2, k3, k5, mN, hC, hN, hi, T⟩ := x
 exact ⟨nm, q, N, bs, bm, hdct, sn, sub, ab, col, dd, k0, k1, k2, k3, k5, mN, k _ _ hC, hN.keeps k, hi, T.keeps k⟩
def XCls (K : W.Frag) (C : Addr) : Prop := W.excIn K C bmVE "ValueError.__new__" = true
theorem XCls.at {K : W.Frag} {C : Addr} {h : Heap} (x : XCls K C) (X : K.In h) : XAt h C none := by
 unfold XCls W.excIn at x
 split at x
 ·rename_i dd cd sl ho
  split at x
  ·rename_i C' bm k0 k1 k2 k3 n k5 hm hs
   simp only [Bool.and_eq_true, beq_iff_eq, Bool.not_eq_true'] at x
   obtain ⟨⟨⟨⟨⟨e1, e2⟩, hdel⟩, ht⟩, hok⟩, hni⟩ := x
   subst e1 e2
   obtain ⟨nm, bs, mro, ns, qn, hd, sn, sub, ab, col, del⟩ := cd
   dsimp only at hm hdel hok hni
   subst hm hdel
   have hsl : sl = #[k0, k1, k2, k3, some (.builtin "ValueError.__new__"), k5] := by
    obtain ⟨l⟩ := sl
    exact congrArg Array.mk hs
   subst hsl
   exact ⟨nm, qn, ns, bs, bm, hd, sn, sub, ab, col, dd, k0, k1, k2, k3, k5, _, X _ _ ho, .of_isNs (W.isNs_of_in X hok), W.nsMap_none_of_in X hok hni, W.tail_of_in X ht⟩
  ·cases x
 ·cases x
section
variable {prog : Program} {w : World} {A : Around} {E : Value → Shared → Prop} {h : Heap} {g : Array GenState} {d : Drawn} {t : Nat} {os : OsState} {C : Addr}
abbrev newX (C t : Addr) : Obj := { cls := .ref C, data := .fields #[.ref t, .none, .none, .none, .bool false, .none] }
abbrev argT (us : List Value) : Obj := { cls := .type "tuple", data := .seq us.toArray }
theorem exc_made {us : List Value} {Q : Fin → Shared → Prop} (x : XAt h C none) (hz : us.length ≤ sizeLine)
  (hq : ∀ h' t', (∀ b o, h.get? b = some o → h'.get? b = some o) → h'.get? (h.objs.size + 1) = some (newX C t') → Q (.done (.ret (.ref (h.objs.size + 1)))) ⟨h', g, d, t, os⟩) :
  wpAny (model prog w) A (Builtin.«type.__call__» ⟨.ref C :: us, []⟩) Q E ⟨h, g, d, t, os⟩ := by
 obtain ⟨nm, q, N, bs, bm, hdct, sn, sub, ab, col, dd, k0, k1, k2, k3, k5, mN, hC, hN, hi, T⟩ := x
 have Fv := PySem.F.excBase_ValueError
 repeat (first | (with_reducible refine wpAny_loadPart_at hC ?_) | (with_reducible refine wpAny_madeBy_exc hC ?_) | wp_step)
 refine codeAny_call_builtin_code (Code.quiet_builtin _ Fv.quiet) (wpAny_check_new_subU Fv rfl T hC (codeAny_exc_new_subU Fv rfl Fv T hC ?_ hz))
 show wpAny _ _ _ _ _ _
 have kk : ∀ b o, h.get? b = some o → ((h.push { cls := .type "tuple", data := .seq us.toArray }).push { cls := .ref C, data := .fields #[.ref h.objs.size, .none, .none, .none, .bool false, .none] }).get? b = some o := fun b o z => Heap.get?_push_of_some _ (Heap.get?_push_of_some _ z)
 have c1 := kk _ _ hC
 have n1 := hN.keeps kk
 have T1 := T.keeps kk
 have ge : ((h.push { cls := .type "tuple", data := .seq us.toArray }).push { cls := .ref C, data := .fields #[.ref h.objs.size, .none, .none, .none, .bool false, .none] }).get? (h.objs.size + 1) = some { cls := .ref C, data := .fields #[.ref h.objs.size, .none, .none, .none, .bool false, .none] } := by heap_get
 have cc : (Value.ref C :: bm).contains (.ref C) = true := by simp
 unfold isInstance
 repeat (first | (with_reducible refine wpAny_loadPart_at ge ?_) | (with_reducible refine wpAny_isSubtype_exc c1 ?_; rw [cc]) | wp_step)
 show wpAny _ _ (typeLookup (.ref C) _) _ _ _
 refine wpAny_typeLookup_tail c1 n1 T1 Fv.mroIs Fv.init.lookup ?_
 rw [hi]
 refine wpAny_holding (wpAny_bind (wpAny_of_eq (Fv.init.bind _) (wpAny_bind (wpAny_call (codeAny_call_builtin Fv.init.plain Fv.initEntry (wpAny_check_init_subU Fv T1 c1 ge rfl ?_))))))
 wp_walk
 refine hq _ (h.objs.size + 2) (fun b o z => ?_) ?_
 ·rw [Heap.get?_update_other _ _ (Nat.ne_of_gt (Nat.lt_succ_of_lt (Heap.lt_size z)))]
  exact Heap.get?_push_of_some _ (kk b o z)
 ·rw [Heap.get?_update_self _ (Heap.get?_push_of_some _ ge) rfl]
  simp only [Heap.size_push]
  rfl
theorem exc_call {us : List Value} {Q : Value → Shared → Prop} (x : XAt h C none) (hz : us.length ≤ sizeLine)
  (hq : ∀ h' t', (∀ b o, h.get? b = some o → h'.get? b = some o) → h'.get? (h.objs.size + 1) = some (newX C t') → Q (.ref (h.objs.size + 1)) ⟨h', g, d, t, os⟩) :
  wpAny (model prog w) A (call (.ref C) us) Q E ⟨h, g, d, t, os⟩ := by
 obtain ⟨nm, q, N, bs, bm, hdct, sn, sub, ab, col, dd, k0, k1, k2, k3, k5, mN, hC, r⟩ := id x
 have f1 := tc_lookup
 have f2 := tc_bind (.ref C)
 have hT : (⟨h, g, d, t, os⟩ : Shared).TypeIs (.ref C) "type" := ⟨_, hC, rfl⟩
 refine wpAny_call (codeAny_of_tree ?_)
 show wpAny _ _ (callAny (.ref C) _) _ _ _
 repeat (any_goals (first | assumption | (with_reducible refine wpAny_loadPart_at hC ?_) | wp_step))
 exact ⟨rfl, codeAny_call_builtin_at (Code.quiet_builtin _ (by decide +kernel)) entry_typeCall (wpAny_check_type_call_sub hC (exc_made x hz fun h' t' k q => hq h' t' k q))⟩
end
section
variable {M : Model} {A : Around} {E : Value → Shared → Prop} {s : Shared} {env : Env} {C : Addr}
theorem raise_core {x : Sem Value} {Q : Flow → Shared → Prop} (hh : A.handled = none)
  (k : wpAny M A x (fun v s1 => ∃ e oe vs a0 oi, v = .ref e ∧ XAt s1.heap C oi ∧ s1.heap.get? e = some oe ∧ oe.cls = .ref C ∧ oe.data = .fields vs ∧ vs[0]? = some a0 ∧ vs[1]? = some .none ∧ E (.ref e) s1) E s) :
  wpAny M A (raiseStmt env (some x) none) Q E s := by
 unfold raiseStmt
 refine wpAny_bind (wpAny_mono k (fun v s1 z => ?_) fun _ _ y => y)
 obtain ⟨e, oe, vs, a0, oi, rfl, ⟨nm, q, N, bs, bm, hdct, sn, sub, ab, col, dd, k0, k1, k2, k3, k5, mN, hC, hN, hi, T⟩, he, hc, hd, h0, h1, hE⟩ := z
 have cB : (Value.ref C :: bm).contains (.type "BaseException") = true := by rw [List.contains_cons, T.hasType (show bmVE.contains (.type "BaseException") = true from rfl), Bool.or_true]
 obtain ⟨oc, od, oda, osl⟩ := oe
 dsimp only at hc hd
 subst hc hd
 obtain ⟨hp, g, d, tk, os⟩ := s1
 repeat (first | (with_reducible refine wpAny_loadPart_at he ?_) | (with_reducible refine wpAny_loadPart_at hC ?_) | (with_reducible refine wpAny_isSubtype_exc hC ?_; rw [cB]) | wp_step)
 rw [h1]
 refine wpAny_pure ?_
 rw [if_neg (by decide)]
 exact wpAny_pure (wpAny_raiseNew_none hh hE)
end
end L2
namespace L2
open PySem PySem.Spec PyProof.Rows L3
structure XC (K : PySem.W.Frag) (C : Addr) : Prop where
 exc : XCls K C
 kp : PySem.W.keepIn K (.ref C) = true
def tRaise (C : Addr) (W : WX) (t : TA) : TS := fun _ σ H => t σ H fun vs H1 => vs.length ≤ sizeLine ∧ W σ (.ref C) none H1
section
variable {X : Cx} {W : WX} {C : Addr} {x : Str} {np cpos pos : Pos} {e : Expr} {es : List Expr} {t : TA}
theorem ps_raise (hc : X.calm = true) (hL : Lifts X W) (xc : XC X.K C) (hg : Gl X x) (hm : X.mg x = some (.ref C)) (ha : PA X (e :: es) t) (hdb : (x == ("__debug__" : Str)) = false := by decide)
  (he : starEach (e :: es) X.env = (false, eval e X.env) :: starEach es X.env := by rfl) (hpl : (backTo cpos (starEach es X.env)).any (·.1) = false := by rfl) :
  PS X (.Raise (some (.Call (.Name x np) (e :: es) [] cpos)) none pos) (tRaise C W t) := by
 intro pins s σ H D I h
 rw [arm_exec_Raise]
 refine wpAny_bind (wpAny_standAt (raise_core (C := C) (I.ok.hd hc) (wpAny_bind (wpAny_mono ?_ (fun v s3 z => wpAny_bind (wpAny_standAt (wpAny_pure z))) fun _ _ y => y))))
 refine wpAny_Call_Name_kw (ld_glob I hg hm ?_ hdb)
 refine PySem.W.callWith_K (h₀ := X.base) I.ok.mod.kin xc.kp (thn (ha cpos pins s σ H _ I h) fun us s1 ⟨vs, H1, I1, r, hz, q⟩ => ⟨I1.kIn, ?_⟩) he hpl
 have xa := xc.exc.at I1.kIn
 obtain ⟨h1, g1, d1, t1, os1⟩ := s1
 refine exc_call xa (by rw [List.nil_append, ← r.length]; exact hz) fun h' t' k ge => ?_
 have I2 := I1.kept (t' := t1) k
 refine ⟨_, _, _, _, _, rfl, xa.keeps k, ge, rfl, rfl, rfl, rfl, hL _ _ _ _ _ _ _ (tb := none) ⟨I2, ⟨⟨_, _, _, ge, rfl, rfl, rfl, rfl, rfl, fun _ => rfl⟩, fun T z => by cases z⟩, I1.fpOk (Nat.le_succ _) (I1.hok.fresh (Nat.le_succ _)), fun T z => by cases z⟩ q⟩
end
section
variable {M : Model} {A : Around} {E : Value → Shared → Prop} {s : Shared}
theorem match_core {K : PySem.W.Frag} {ea : Addr} {c cv tb : Value} {dd : Option Addr} {b : Bool} {Q : Bool → Shared → Prop} (X : K.In s.heap) (he : ExcO s.heap ea c dd tb) (hb : PySem.W.kitCls K c cv = some b) (hx : PySem.W.kitCls K cv (.type "BaseException") = some true)
  (hq : Q b s) : wpAny M A (excMatches (.ref ea) cv) Q E s := by
 obtain ⟨l1, l2, l3⟩ := PySem.W.kit_cls (M := M) X hb
 obtain ⟨_, _, m3⟩ := PySem.W.kit_cls (M := M) X hx
 obtain ⟨oe, vs, a0, q, hc, _⟩ := he
 have nt := tc_notTuple
 unfold excMatches isInstance
 refine wpAny_bind (wpAny_bind (l1.at ?_))
 rw [nt]
 refine wpAny_pure ?_
 rw [if_neg Bool.false_ne_true]
 refine wpAny_bind (wpAny_pure ?_)
 simp only [List.forIn_cons, List.forIn_nil]
 unfold isExcClass
 refine wpAny_bind (wpAny_bind (wpAny_bind (wpAny_bind (l2.at ?_))))
 rw [if_pos rfl]
 refine m3.at ?_
 simp only [Bool.not_true, Bool.false_eq_true, if_false]
 refine wpAny_pure (wpAny_pure ?_)
 obtain ⟨hp, g, d, tk, os⟩ := s
 unfold typeOf
 refine wpAny_bind (wpAny_bind ?_)
 refine wpAny_loadPart_at q (wpAny_pure ?_)
 rw [hc]
 refine wpAny_bind (wpAny_bind (wpAny_bind (l3.at ?_)))
 cases b with
 | true => exact wpAny_pure (wpAny_pure (wpAny_pure hq))
 | false => exact wpAny_pure (wpAny_pure (wpAny_pure hq))
end
abbrev Cx.body (X : Cx) (pn : List (Addr × Obj)) (E : Value → Shared → Prop) : Cx := { X with pn := pn, xe := E }
abbrev Cx.suite (X : Cx) (ea : Addr) (pn : List (Addr × Obj)) : Cx := { X with A := X.A.mark (some (.ref ea)), calm := false, pn := pn, xe := fun _ _ => False }
section
variable {X : Cx} {pins pl : List (Addr × Obj)} {σ : St} {H : Hp} {s : Shared} {ea : Addr} {E : Value → Shared → Prop}
theorem ok_body (ok : X.Ok) (pn : List (Addr × Obj)) (E : Value → Shared → Prop) : (X.body pn E).Ok :=
 ⟨ok.mod, ok.kind, ok.glob, ok.blt, ok.above, ok.inj, ok.has, ok.cab, ok.hd, ok.frames, ok.stk, ok.exf, ok.bs, ok.bsz, ok.noex, ok.exfs, ok.funs, ok.frf⟩
theorem ok_unbody {pn : List (Addr × Obj)} (ok : (X.body pn E).Ok) : X.Ok :=
 ⟨ok.mod, ok.kind, ok.glob, ok.blt, ok.above, ok.inj, ok.has, ok.cab, ok.hd, ok.frames, ok.stk, ok.exf, ok.bs, ok.bsz, ok.noex, ok.exfs, ok.funs, ok.frf⟩
theorem ok_suite (ok : X.Ok) (ea : Addr) (pn : List (Addr × Obj)) : (X.suite ea pn).Ok :=
 ⟨ok.mod, ok.kind, ok.glob, ok.blt, ok.above, ok.inj, ok.has, ok.cab, fun z => (by cases z), ok.frames, ok.stk, ok.exf, ok.bs, ok.bsz, ok.noex, ok.exfs, ok.funs, ok.frf⟩
theorem Inv.body (I : Inv X pins σ H s) (E : Value → Shared → Prop) : Inv (X.body (X.pn ++ pins) E) [] σ H s :=
 ⟨ok_body I.ok _ E, I.os, I.bare, I.base, I.loc, I.cell, I.free, I.freeC, fun p hp => I.pin p (by simpa using hp), I.hok, I.len⟩
theorem Inv.unbody (I : Inv (X.body (X.pn ++ pins) E) pl σ H s) : Inv X pins σ H s :=
 ⟨ok_unbody I.ok, I.os, I.bare, I.base, I.loc, I.cell, I.free, I.freeC, fun p hp => I.pin p (List.mem_append_left _ hp), I.hok, I.len⟩
theorem Inv.suite (I : Inv X pins σ H s) (ea : Addr) : Inv (X.suite ea (X.pn ++ pins)) [] σ H s :=
 ⟨ok_suite I.ok ea _, I.os, I.bare, I.base, I.loc, I.cell, I.free, I.freeC, fun p hp => I.pin p (by simpa using hp), I.hok, I.len⟩
theorem Inv.unsuite (ok : X.Ok) (I : Inv (X.suite ea (X.pn ++ pins)) pl σ H s) : Inv X pins σ H s :=
 ⟨ok, I.os, I.bare, I.base, I.loc, I.cell, I.free, I.freeC, fun p hp => I.pin p (List.mem_append_left _ hp), I.hok, I.len⟩
theorem FpOk.body {b : Addr} (f : FpOk (X.body (X.pn ++ pins) E) pl H b) : FpOk X pins H b :=
 ⟨f.1, f.2.1, f.2.2.1, f.2.2.2.1, f.2.2.2.2.1, fun p hp => f.2.2.2.2.2 p (List.mem_append_left _ hp)⟩
theorem SP.unbody {D : Ends} {f : Flow} (h : SP (X.body (X.pn ++ pins) E) pl D f s) : SP X pins D f s := by
 cases f with
 | next => obtain ⟨σ', H', I, q⟩ := h; exact ⟨σ', H', I.unbody, q⟩
 | brk => obtain ⟨σ', H', I, q⟩ := h; exact ⟨σ', H', I.unbody, q⟩
 | cont => obtain ⟨σ', H', I, q⟩ := h; exact ⟨σ', H', I.unbody, q⟩
 | ret u => obtain ⟨v, σ', H', I, r, q⟩ := h; exact ⟨v, σ', H', I.unbody, r, q⟩
theorem look_core {c : Value} {dd tb : Option Addr} {Q : Unit → Shared → Prop} {E' : Value → Shared → Prop} (hs : X.stack = X.env :: X.outer) (hf : X.env.frame = some X.env.locals) (x : XState X pins σ H s ea c dd tb)
  (k : ∀ h' T, Inv X pins σ H { s with heap := h' } → Fly h' ea c dd (some T) → FpOk X pins H ea → FpOk X pins H T → Q () { s with heap := h' }) :
  wpAny (model X.prog X.w) X.A (noteFrame (.ref ea) X.env) (fun _ s2 => wpAny (model X.prog X.w) X.A (setFlight (.ref ea) none) Q E' s2) E' s := by
 have I := x.inv
 have st := I.stack
 have fr := I.ok.frames
 rw [hs] at st fr
 refine note_core (base := X.base) fr st hf x.fly fun h1 T k1 k2 hT hd1 => ?_
 refine flight_core hd1 fun h2 k3 fl2 => ?_
 have nsT : ∀ {b : Addr} {o : Obj}, s.heap.get? b = some o → b ≠ T := fun e z => absurd (Nat.lt_of_lt_of_le (Heap.lt_size e) hT) (by rw [z]; exact Nat.lt_irrefl _)
 have hch : ∀ b ∈ ea :: tb.toList, FpOk X pins H b := fun b hb => by
  rcases List.mem_cons.mp hb with z | z
  ·rw [z]; exact x.fe
  ·cases tb with
   | none => simp at z
   | some T0 =>
    have z' : b = T0 := by simpa using z
    rw [z']; exact x.ft T0 rfl
 have n1 : ∀ {b : Addr}, b ∉ ea :: tb.toList → b ≠ ea := fun h z => h (by rw [z]; exact List.mem_cons_self)
 have n2 : ∀ {b : Addr}, b ∉ ea :: tb.toList → tb ≠ some b := fun h z => h (List.mem_cons_of_mem _ (by rw [z]; simp))
 have kk : ∀ b o, b ∉ frs X.stack → b ∉ ea :: tb.toList → s.heap.get? b = some o → h2.get? b = some o := fun b o hb hc e => k3 b o (nsT e) (k1 b o (by rw [← hs]; exact hb) (n1 hc) (n2 hc) e)
 have ks : ∀ b o, b ∉ ea :: tb.toList → s.heap.get? b = some o → ∃ sl, h2.get? b = some { o with slots := sl } := fun b o hc e => by
  obtain ⟨sl, q⟩ := k2 b o e (n1 hc) (n2 hc)
  exact ⟨sl, k3 b _ (nsT e) q⟩
 have I2 : Inv X pins σ H { s with heap := h2 } := I.call (g' := s.gens) (d' := s.drawn) (t' := s.toks) (ch := ea :: tb.toList)
  ⟨fun b o e n hb hx => kk b o hb hx e, fun b o e n hb hx => ks b o hx e, fun _ _ _ n _ => n, fun b o e hx => let ⟨sl, q⟩ := ks b o hx e; ⟨_, q⟩, fun _ _ e => e, fun _ _ _ e => e, fun b ps e => ⟨#[], by rw [e]; simp⟩⟩
  (hok_slots I (fun b hb => (hch b hb).1) kk) I.bare fun b hb => ⟨(hch b hb).2.2.2.1, (hch b hb).2.1, (hch b hb).2.2.2.2.1, (hch b hb).2.2.2.2.2⟩
 exact k h2 T I2 fl2 x.fe (I.fpOk hT (I.hok.fresh hT))
end
def exo (ea : Addr) (c : Value) (dd : Option Addr) : HO := .ext fun h => ∃ o vs, h.get? ea = some o ∧ o.cls = c ∧ o.dict = dd ∧ o.data = .fields vs
theorem exo_ok {P : Program} {w : World} {H : Hp} {h : Heap} {ea : Addr} {c tb : Value} {dd : Option Addr} (x : ExcO h ea c dd tb) : ObjOk P w H h ea (exo ea c dd) := by
 obtain ⟨oe, vs, a0, q, hc, hdd, hd, _⟩ := x
 exact ⟨⟨oe, vs, q, hc, hdd, hd⟩, ⟨oe, q⟩, fun h1 h2 ⟨o, vs, e, r⟩ k => ⟨o, vs, k o e, r⟩⟩
section
variable {X : Cx} {pins : List (Addr × Obj)} {σ : St} {H : Hp} {s : Shared}
theorem goes_ok {M : Model} {A : Around} {E : Value → Shared → Prop} {i : Nat} {n : Str} {pos : Pos} {Q : Unit → Shared → Prop} (I : Inv X pins σ H s) (hN : X.N.Nodup) (hi : X.N[i]? = some n) (hl : X.env.scope.names.lookup n = some .local)
  (k : ∀ s', Inv X pins (σ.set i none) H s' → Q () s') : wpAny M A (do bindName X.env n .none; unbindBehindTheSuite X.env n pos) Q E s := by
 obtain ⟨m, hn, hlo⟩ := id I.loc
 have hcls : (X.env.scope.kind == .class || (X.env.scope.kind == .module && X.env.locals != X.env.globals)) = false := by rw [I.ok.kind]; rfl
 have hil : i < σ.length := by rw [I.len]; exact (List.getElem?_eq_some_iff.mp hi).1
 refine wpAny_nameGoes_keeps hl hn hcls fun h' v hn' hs => k _ ?_
 have lt0 : ∀ {b : Addr} {o : Obj}, X.s₀.heap.get? b = some o → b ≠ X.env.locals := fun e => Nat.ne_of_lt (Nat.lt_of_lt_of_le (Heap.lt_size e) I.ok.above)
 refine ⟨I.ok, I.os, I.bare, ⟨fun b o e n hb hx => (hs.2 b (lt0 e)).trans (I.base.keep b o e n hb hx), fun b o e n hb hx => let ⟨sl, q⟩ := I.base.slot b o e n hb hx; ⟨sl, (hs.2 b (lt0 e)).trans q⟩, I.base.free,
  fun b o e hx => let ⟨o', q⟩ := I.base.there b o e hx; ⟨o', (hs.2 b (lt0 e)).trans q⟩, I.base.tups, I.base.frzs, I.base.tbls⟩, ⟨_, hn', fun j y v' e1 e2 e3 => ?_⟩, fun y c e => let ⟨u, z⟩ := I.cell y c e; ⟨u, z.sameBut hs (I.cne y c e)⟩, I.free, I.freeC,
  fun p hp => let ⟨e, n, ne, r⟩ := I.pin p hp; ⟨(hs.2 p.1 ne).trans e, n, ne, r⟩, fun b u e => ?_, by simpa using I.len⟩
 ·by_cases hj : j = i
  ·subst hj
   rw [List.getElem?_set_self hil] at e2
   cases e2
  ·rw [List.getElem?_set_ne (Ne.symm hj)] at e2
   obtain ⟨u, r, q⟩ := hlo j y v' e1 e2 e3
   refine ⟨u, r, ?_⟩
   rcases q with ⟨kd, e⟩ | ⟨kd, c, e, z⟩
   ·refine .inl ⟨kd, ?_⟩
    have ny : y ≠ n := fun z => hj (nodup_ix hN e1 (z ▸ hi))
    show (if y = n then v else m y) = some u
    rw [if_neg ny]
    exact e
   ·exact .inr ⟨kd, c, e, z.sameBut hs (I.cne y c e)⟩
 ·refine (I.hok b u e).stay (fun d w hd q => (hs.2 d fun z => ?_).trans q) (fun _ q => q) fun _ _ q => q
  have fr := I.free
  rw [← z] at fr
  rcases hd with y | y
  ·rw [y, e] at fr; cases fr
  ·rw [y] at fr; cases fr
end
def tTryAs (K : PySem.W.Frag) (cv : Value) (i : Nat) (tb : WX → TS) (ts : TS) : TS := fun D σ H => tb (fun σ' c dd H' => PySem.W.kitCls K c cv = some true ∧
 ∀ ea, H' ea = none → ts ⟨fun σ2 H2 => D.nx (σ2.set i none) H2, D.rt, fun σ2 H2 => D.bk (σ2.set i none) H2, fun σ2 H2 => D.ct (σ2.set i none) H2⟩ (σ'.set i (some (.ref ea))) (upd H' ea (exo ea c dd))) D σ H
def tTry0 (K : PySem.W.Frag) (cv : Value) (tb : WX → TS) (ts : TS) : TS := fun D σ H => tb (fun σ' c dd H' => PySem.W.kitCls K c cv = some true ∧ ts D σ' H') D σ H
section
variable {X : Cx} {body : List Stmt} {b0 : Stmt} {suite : List Stmt} {x n : Str} {np hpos pos : Pos} {tb : WX → TS} {ts : TS} {cv : Value} {i : Nat}
theorem ps_tryAs (hs : X.stack = X.env :: X.outer) (hf : X.env.frame = some X.env.locals) (hx : X.ex = []) (hN : X.N.Nodup) (hi : X.N[i]? = some n) (hl : X.env.scope.names.lookup n = some .local)
  (hg : Gl X x) (hm : X.mg x = some cv) (hbx : PySem.W.kitCls X.K cv (.type "BaseException") = some true)
  (hb : ∀ (W : WX) (pn : List (Addr × Obj)) (E : Value → Shared → Prop), Lifts (X.body pn E) W → PassesOwn (model X.prog X.w) X.A X.env E → PSs (X.body pn E) body (tb W))
  (hsu : ∀ (ea : Addr) (pn : List (Addr × Obj)), PSs (X.suite ea pn) (b0 :: suite) ts) (hdb : (x == ("__debug__" : Str)) = false := by decide) :
  PS X (.Try body [.ExceptHandler (some (.Name x np)) (some n) (b0 :: suite) hpos] [] [] pos) (tTryAs X.K cv i tb ts) := by
 intro pins s σ H D I h
 have ok := I.ok
 refine wpAny_Try_except (wpAny_mono (hb _ (X.pn ++ pins) _ ?_ PassesOwn.looking [] s σ H D (I.body _) h) (fun f s1 q => ?_) fun _ _ y => y)
 ·-- the exception
  intro pl σ1 H1 s1 ea c dd tb1 x1 hW
  obtain ⟨hk, hW⟩ := hW
  have x2 : XState X pins σ1 H1 s1 ea c dd tb1 := ⟨x1.inv.unbody, x1.fly, x1.fe.body, fun T z => (x1.ft T z).body⟩
  refine look_core hs hf x2 fun h' T I2 fl fe fT => ?_
  have I3 := I2.suite ea
  refine wpAny_handleBy_cons (codeAny_handlers_test (ld_glob (X := X.suite ea (X.pn ++ pins)) I3 hg hm ?_ hdb)) (by intro z; cases z)
  refine match_core I3.kIn fl.1 hk hbx (codeAny_handlers_suite_as ?_)
  refine flight_core (T := T) (fl := .none) ⟨fl.1, fl.2 T rfl⟩ fun h3 k3 fl3 => ?_
  have I4 : Inv X pins σ1 H1 { s1 with heap := h3 } := Inv.turned (s := { s1 with heap := h' }) (h' := h3) (t' := s1.toks) (it := T) I2 (fun b o hb e => k3 b o hb e) fT.1 fT.2.1 fT.2.2.2.1 fT.2.2.2.2.1 fT.2.2.2.2.2
  have ya : X.s₀.heap.objs.size ≤ ea := by
   rcases fe.2.2.2.1 with z | z
   ·rw [hx] at z; exact absurd z (by simp)
   ·exact z
  have I5 := Inv.adopt (o := exo ea c dd) I4 fe.1 ya fe.2.1 fe.2.2.2.2.1 fe.2.2.2.2.2 (exo_ok fl3.1)
  have I6 := I5.suite ea
  refine store_ok (X := X.suite ea (X.pn ++ pins)) (v := .ref ea) I6 hN hi (.inl hl) rfl (fun s4 I7 => ?_) (.inr hl)
  refine wpAny_mono (hsu ea (X.pn ++ pins) [] s4 _ _ _ I7 (hW ea fe.1)) (fun f s5 q => ?_) fun _ _ z => False.elim z
  cases f with
  | next => obtain ⟨σ', H', J, q⟩ := q; exact goes_ok (X := X) (Inv.unsuite ok J) hN hi hl fun s6 J6 => ⟨_, _, J6, q⟩
  | brk => obtain ⟨σ', H', J, q⟩ := q; exact goes_ok (X := X) (Inv.unsuite ok J) hN hi hl fun s6 J6 => ⟨_, _, J6, q⟩
  | cont => obtain ⟨σ', H', J, q⟩ := q; exact goes_ok (X := X) (Inv.unsuite ok J) hN hi hl fun s6 J6 => ⟨_, _, J6, q⟩
  | ret u => obtain ⟨v, σ', H', J, r, q⟩ := q; exact goes_ok (X := X) (Inv.unsuite ok J) hN hi hl fun s6 J6 => ⟨v, _, _, J6, r, q⟩
 ·have q' := SP.unbody q
  cases f with
  | next => exact wpAny_execs_nil q'
  | brk => exact q'
  | cont => exact q'
  | ret u => exact q'
theorem ps_try0 (hs : X.stack = X.env :: X.outer) (hf : X.env.frame = some X.env.locals) (hg : Gl X x) (hm : X.mg x = some cv) (hbx : PySem.W.kitCls X.K cv (.type "BaseException") = some true)
  (hb : ∀ (W : WX) (pn : List (Addr × Obj)) (E : Value → Shared → Prop), Lifts (X.body pn E) W → PassesOwn (model X.prog X.w) X.A X.env E → PSs (X.body pn E) body (tb W))
  (hsu : ∀ (ea : Addr) (pn : List (Addr × Obj)), PSs (X.suite ea pn) (b0 :: suite) ts) (hdb : (x == ("__debug__" : Str)) = false := by decide) :
  PS X (.Try body [.ExceptHandler (some (.Name x np)) none (b0 :: suite) hpos] [] [] pos) (tTry0 X.K cv tb ts) := by
 intro pins s σ H D I h
 have ok := I.ok
 refine wpAny_Try_except (wpAny_mono (hb _ (X.pn ++ pins) _ ?_ PassesOwn.looking [] s σ H D (I.body _) h) (fun f s1 q => ?_) fun _ _ y => y)
 ·intro pl σ1 H1 s1 ea c dd tb1 x1 hW
  obtain ⟨hk, hW⟩ := hW
  have x2 : XState X pins σ1 H1 s1 ea c dd tb1 := ⟨x1.inv.unbody, x1.fly, x1.fe.body, fun T z => (x1.ft T z).body⟩
  refine look_core hs hf x2 fun h' T I2 fl fe fT => ?_
  have I3 := I2.suite ea
  refine wpAny_handleBy_cons (codeAny_handlers_test (ld_glob (X := X.suite ea (X.pn ++ pins)) I3 hg hm ?_ hdb)) (by intro z; cases z)
  refine match_core I3.kIn fl.1 hk hbx (codeAny_handlers_suite ?_)
  refine flight_core (T := T) (fl := .none) ⟨fl.1, fl.2 T rfl⟩ fun h3 k3 fl3 => ?_
  have I4 : Inv X pins σ1 H1 { s1 with heap := h3 } := Inv.turned (s := { s1 with heap := h' }) (h' := h3) (t' := s1.toks) (it := T) I2 (fun b o hb e => k3 b o hb e) fT.1 fT.2.1 fT.2.2.2.1 fT.2.2.2.2.1 fT.2.2.2.2.2
  refine wpAny_mono (hsu ea (X.pn ++ pins) [] _ _ _ _ (I4.suite ea) hW) (fun f s5 q => ?_) fun _ _ z => False.elim z
  cases f with
  | next => obtain ⟨σ', H', J, q⟩ := q; exact ⟨_, _, Inv.unsuite ok J, q⟩
  | brk => obtain ⟨σ', H', J, q⟩ := q; exact ⟨_, _, Inv.unsuite ok J, q⟩
  | cont => obtain ⟨σ', H', J, q⟩ := q; exact ⟨_, _, Inv.unsuite ok J, q⟩
  | ret u => obtain ⟨v, σ', H', J, r, q⟩ := q; exact ⟨v, _, _, Inv.unsuite ok J, r, q⟩
 ·have q' := SP.unbody q
  cases f with
  | next => exact wpAny_execs_nil q'
  | brk => exact q'
  | cont => exact q'
  | ret u => exact q'
end
end L2
namespace TL
open PySem PySem.Spec PyProof.Rows PySem.SeqAt L2 L3
section
variable {P : Program} {w : World} {K : W.Frag} {mg : Str → Option Value} {base : Heap}
theorem step_view {H : Hp} {v : V} (h : isStep H v = true) : ∃ a x ps, v = .ref a ∧ H a = some (.tup (.str x :: ps)) ∧ stepOk (.str x :: ps) = true := by
 unfold isStep at h
 cases e : viewT H v with
 | none => rw [e] at h; cases h
 | some xs =>
  rw [e] at h
  obtain ⟨a, rfl, ha⟩ := viewT_ref e
  match xs, h, ha with
  | .str x :: ps, h, ha => exact ⟨a, x, ps, rfl, ha, h⟩
def spStepX (t : Adr) (cN : Addr) : Sp := fun vs H Q E => ∃ v T, vs = [v] ∧ tyName H v = some T ∧ (∀ xs, viewT H v = some xs → xs.length ≤ 1000 ∧ ∀ x ∈ xs, ∃ T, tyName H x = some T) ∧
 (∀ a x ps, v = .ref a → H a = some (.tup (.str x :: ps)) → stepOk (.str x :: ps) = true → ∀ z dx H', Same H H' → H z = none → H' z = some (.ins (clsW t x) dx (fldsW (.ref a) x ps)) → Q (.ref z) H') ∧
 (isStep H v = false → ∀ H', Same H H' → E (.ref cN) none H')
theorem ok_stepX {t : Adr} {cN : Addr} (T : StepsT K mg t) (xc : XC K cN) (mX : mg "NoStep" = some (.ref cN)) : FnOk P w K mg base (CXE P w) 4 t.fO t.fdO ["told"] (spStepX t cN) := by
 have GS : FnOk P w K mg base CX0 2 t.fS t.fdS ["told"] spIsStep := ok_isStep T.fnS T.bl T.cn T.fnW T.bW T.mW T.fnB T.bB T.mB
 have GI : FnOk P w K mg base CX0 1 t.fI t.fdI ["self", "told"] (spInit K) := ok_init T.init.fn T.init.tup
 have GPut : FnOk P w K mg base CX0 2 t.fPut t.fdPut ["self", "told"] (spI t.cPut "reg" "number") := ok_PutI T.fnPut T.init T.clPut T.nPPut T.n1Put T.n2Put
 have GAdd : FnOk P w K mg base CX0 2 t.fAdd t.fdAdd ["self", "told"] (spI t.cAdd "reg" "other") := ok_AddI T.fnAdd T.init T.clAdd T.nPAdd T.n1Add T.n2Add
 have GSet : FnOk P w K mg base CX0 2 t.fSet t.fdSet ["self", "told"] (spI t.cSet "name" "reg") := ok_SetI T.fnSet T.init T.clSet T.nPSet T.n1Set T.n2Set
 have GLook : FnOk P w K mg base CX0 2 t.fLook t.fdLook ["self", "told"] (spI t.cLook "reg" "name") := ok_LookI T.fnLook T.init T.clLook T.nPLook T.n1Look T.n2Look
 have GSwap : FnOk P w K mg base CX0 2 t.fSwap t.fdSwap ["self", "told"] (spI t.cSwap "reg" "name") := ok_SwapI T.fnSwap T.init T.clSwap T.nPSwap T.n1Swap T.n2Swap
 have GSkip : FnOk P w K mg base CX0 2 t.fSkip t.fdSkip ["self", "told"] (spI t.cSkip "reg" "place") := ok_SkipI T.fnSkip T.init T.clSkip T.nPSkip T.n1Skip T.n2Skip
 refine T.fnO.okX scStepOf (fun vs H Q E h => ?_) (fun cdv A outer s H vs Q E hr hL hp h => ?_)
 ·obtain ⟨v, T, rfl, _⟩ := h
  rfl
 ·obtain ⟨v0, Ty, rfl, hTy, hvw, k', kx⟩ := h
  refine ⟨_, (pss_cons (ps_if (pt_not (pt_val (pe_call GS (hr.mono (by decide)) rfl T.mS T.fnS.kp T.bS .nil pass0 (pa_cons (pv 0) pa_nil)))) (pss_one (ps_raise rfl hL xc rfl mX (pa_cons pe_str pa_nil))) pss_nil)
   (pss_cons (ps_set (i := 1) scStepOf.nd rfl (Or.inl rfl) (pe_ix ix_tup (pv 0) pe_int (fun _ _ => rfl)))
   (pss_cons (ps_if (pt_cmpR op_eq (pv 1) pe_str (nomark _)) (pss_one (ps_ret (pe_make T.mkPut GPut hr rfl T.mgPut T.biPut .nil pass0 (pa_cons (pv 0) pa_nil)))) pss_nil)
   (pss_cons (ps_if (pt_cmpR op_eq (pv 1) pe_str (nomark _)) (pss_one (ps_ret (pe_make T.mkAdd GAdd hr rfl T.mgAdd T.biAdd .nil pass0 (pa_cons (pv 0) pa_nil)))) pss_nil)
   (pss_cons (ps_if (pt_cmpR op_eq (pv 1) pe_str (nomark _)) (pss_one (ps_ret (pe_make T.mkSet GSet hr rfl T.mgSet T.biSet .nil pass0 (pa_cons (pv 0) pa_nil)))) pss_nil)
   (pss_cons (ps_if (pt_cmpR op_eq (pv 1) pe_str (nomark _)) (pss_one (ps_ret (pe_make T.mkLook GLook hr rfl T.mgLook T.biLook .nil pass0 (pa_cons (pv 0) pa_nil)))) pss_nil)
   (pss_cons (ps_if (pt_cmpR op_eq (pv 1) pe_str (nomark _)) (pss_one (ps_ret (pe_make T.mkSwap GSwap hr rfl T.mgSwap T.biSwap .nil pass0 (pa_cons (pv 0) pa_nil)))) pss_nil)
   (pss_cons (ps_if (pt_cmpR op_eq (pv 1) pe_str (nomark _)) (pss_one (ps_ret (pe_make T.mkClear GI (hr.mono (by decide)) rfl T.mgClear T.init.bi .nil pass0 (pa_cons (pv 0) pa_nil)))) pss_nil)
   (pss_one (ps_ret (pe_make T.mkSkip GSkip hr rfl T.mgSkip T.biSkip .nil pass0 (pa_cons (pv 0) pa_nil)))))))))))), ?_⟩
  refine ⟨_, rfl, v0, Ty, rfl, hTy, hvw, fun H1 hS => ?_⟩
  refine ⟨_, rfl, ?_⟩
  cases hst : isStep H v0 with
  | false => exact iteT ⟨by show 1 ≤ sizeLine; decide, kx hst H1 hS⟩
  | true =>
  refine iteF ?_
  obtain ⟨a, x0, ps, rfl, ha, hk⟩ := step_view hst
  have k := k' a x0 ps rfl ha hk
  have nn : ∀ {y : Str}, ¬ V.str x0 = V.str y → ¬ x0 = y := fun h e => h (by rw [e])
  refine ⟨_, rfl, a, _, 0, .str x0, rfl, rfl, SqT.of (hS _ _ ha), atI_nat (j := 0) rfl, ?_⟩
  refine ⟨_, rfl, rfl, _, rfl, iteD (fun e => ?_) (fun n1 => ?_)⟩
  ·cases str_inj e
   obtain ⟨v1, v2, hps⟩ := two_of hk (bs := [4, TOPi]) (by unfold boundsM; rw [if_pos rfl])
   subst hps
   refine ⟨_, rfl, fun x dx nx ndx nex => ⟨x, dx, a, [.str "put", v1, v2], v1, v2, rfl, upd_same, ?_, rfl, rfl, rfl, ?_⟩⟩
   ·rw [upd_ne (ne_of_none (hS _ _ ha) nx), upd_ne (ne_of_none (hS _ _ ha) ndx)]; exact hS _ _ ha
   ·refine k x dx _ (fun b o q => ?_) (hS.free nx) (by rw [upd_same]; rfl)
    rw [upd_ne (ne_of_none (hS b o q) nx), upd_ne (ne_of_none (hS b o q) nx), upd_ne (ne_of_none (hS b o q) ndx)]; exact hS b o q
  refine ⟨_, rfl, rfl, _, rfl, iteD (fun e => ?_) (fun n2 => ?_)⟩
  ·cases str_inj e
   obtain ⟨v1, v2, hps⟩ := two_of hk (bs := [4, 4]) (by unfold boundsM; rw [if_neg (by decide +kernel), if_pos rfl])
   subst hps
   refine ⟨_, rfl, fun x dx nx ndx nex => ⟨x, dx, a, [.str "add", v1, v2], v1, v2, rfl, upd_same, ?_, rfl, rfl, rfl, ?_⟩⟩
   ·rw [upd_ne (ne_of_none (hS _ _ ha) nx), upd_ne (ne_of_none (hS _ _ ha) ndx)]; exact hS _ _ ha
   ·refine k x dx _ (fun b o q => ?_) (hS.free nx) (by rw [upd_same]; rfl)
    rw [upd_ne (ne_of_none (hS b o q) nx), upd_ne (ne_of_none (hS b o q) nx), upd_ne (ne_of_none (hS b o q) ndx)]; exact hS b o q
  refine ⟨_, rfl, rfl, _, rfl, iteD (fun e => ?_) (fun n3 => ?_)⟩
  ·cases str_inj e
   obtain ⟨v1, v2, hps⟩ := two_of hk (bs := [12, 4]) (by unfold boundsM; rw [if_neg (by decide +kernel), if_neg (by decide +kernel), if_pos rfl])
   subst hps
   refine ⟨_, rfl, fun x dx nx ndx nex => ⟨x, dx, a, [.str "set", v1, v2], v1, v2, rfl, upd_same, ?_, rfl, rfl, rfl, ?_⟩⟩
   ·rw [upd_ne (ne_of_none (hS _ _ ha) nx), upd_ne (ne_of_none (hS _ _ ha) ndx)]; exact hS _ _ ha
   ·refine k x dx _ (fun b o q => ?_) (hS.free nx) (by rw [upd_same]; rfl)
    rw [upd_ne (ne_of_none (hS b o q) nx), upd_ne (ne_of_none (hS b o q) nx), upd_ne (ne_of_none (hS b o q) ndx)]; exact hS b o q
  refine ⟨_, rfl, rfl, _, rfl, iteD (fun e => ?_) (fun n4 => ?_)⟩
  ·cases str_inj e
   obtain ⟨v1, v2, hps⟩ := two_of hk (bs := [4, 12]) (by unfold boundsM; rw [if_neg (by decide +kernel), if_neg (by decide +kernel), if_neg (by decide +kernel), if_pos rfl])
   subst hps
   refine ⟨_, rfl, fun x dx nx ndx nex => ⟨x, dx, a, [.str "look", v1, v2], v1, v2, rfl, upd_same, ?_, rfl, rfl, rfl, ?_⟩⟩
   ·rw [upd_ne (ne_of_none (hS _ _ ha) nx), upd_ne (ne_of_none (hS _ _ ha) ndx)]; exact hS _ _ ha
   ·refine k x dx _ (fun b o q => ?_) (hS.free nx) (by rw [upd_same]; rfl)
    rw [upd_ne (ne_of_none (hS b o q) nx), upd_ne (ne_of_none (hS b o q) nx), upd_ne (ne_of_none (hS b o q) ndx)]; exact hS b o q
  refine ⟨_, rfl, rfl, _, rfl, iteD (fun e => ?_) (fun n5 => ?_)⟩
  ·cases str_inj e
   obtain ⟨v1, v2, hps⟩ := two_of hk (bs := [4, 12]) (by unfold boundsM; rw [if_neg (by decide +kernel), if_neg (by decide +kernel), if_neg (by decide +kernel), if_neg (by decide +kernel), if_pos rfl])
   subst hps
   refine ⟨_, rfl, fun x dx nx ndx nex => ⟨x, dx, a, [.str "swap", v1, v2], v1, v2, rfl, upd_same, ?_, rfl, rfl, rfl, ?_⟩⟩
   ·rw [upd_ne (ne_of_none (hS _ _ ha) nx), upd_ne (ne_of_none (hS _ _ ha) ndx)]; exact hS _ _ ha
   ·refine k x dx _ (fun b o q => ?_) (hS.free nx) (by rw [upd_same]; rfl)
    rw [upd_ne (ne_of_none (hS b o q) nx), upd_ne (ne_of_none (hS b o q) nx), upd_ne (ne_of_none (hS b o q) ndx)]; exact hS b o q
  refine ⟨_, rfl, rfl, _, rfl, iteD (fun e => ?_) (fun n6 => ?_)⟩
  ·cases str_inj e
   refine ⟨_, rfl, fun x dx nx ndx nex => ⟨x, t.cClear, dx, [], a, .str "clear" :: ps, rfl, upd_same, T.clClear, T.nPClear, by decide, ?_, rfl, ?_⟩⟩
   ·rw [upd_ne (ne_of_none (hS _ _ ha) nx), upd_ne (ne_of_none (hS _ _ ha) ndx)]; exact hS _ _ ha
   ·refine k x dx _ (fun b o q => ?_) (hS.free nx) (by rw [upd_same]; rfl)
    rw [upd_ne (ne_of_none (hS b o q) nx), upd_ne (ne_of_none (hS b o q) nx), upd_ne (ne_of_none (hS b o q) ndx)]; exact hS b o q
  have hskip : x0 = "skip" := last_word hk (nn n1) (nn n2) (nn n3) (nn n4) (nn n5) (nn n6)
  subst hskip
  obtain ⟨v1, v2, hps⟩ := two_of hk (bs := [4, 121]) (by unfold boundsM; rw [if_neg (by decide +kernel), if_neg (by decide +kernel), if_neg (by decide +kernel), if_neg (by decide +kernel), if_neg (by decide +kernel), if_neg (by decide +kernel), if_pos rfl])
  subst hps
  refine ⟨_, rfl, fun x dx nx ndx nex => ⟨x, dx, a, [.str "skip", v1, v2], v1, v2, rfl, upd_same, ?_, rfl, rfl, rfl, ?_⟩⟩
  ·rw [upd_ne (ne_of_none (hS _ _ ha) nx), upd_ne (ne_of_none (hS _ _ ha) ndx)]; exact hS _ _ ha
  ·refine k x dx _ (fun b o q => ?_) (hS.free nx) (by rw [upd_same]; rfl)
   rw [upd_ne (ne_of_none (hS b o q) nx), upd_ne (ne_of_none (hS b o q) nx), upd_ne (ne_of_none (hS b o q) ndx)]; exact hS b o q
end
end TL
namespace L2
open PySem PySem.Spec PyProof.Rows
section
variable {X : Cx}
theorem len_K (K : W.Frag) (h : X.K = K := by rfl) : CallR X (.builtin "len") (fun xs H Q => ∃ p ys, xs = [.ref p] ∧ (SqL K H p ys ∨ SqT K H p ys) ∧ Q (.int ys.length) H) := by subst h; exact call_len_seq
end
end L2
namespace L2
open PySem PySem.Spec PySem.W PyProof.Rows L3
end L2
namespace L2
open PySem PySem.Spec PyProof.Rows
theorem ga_plain : plainId gaBE = true := by decide +kernel
theorem ga_kind : builtinKind gaBE = some Manifest.AttrKind.slot := by kernel_rfl
theorem ga_split : splitId gaBE = some ("BaseException", "__getattribute__") := by kernel_rfl
theorem ga_args (a b : Value) : argsOk gaBE { pos := [a, b] } := by kernel_rfl
theorem ga_bind (self : Value) : bindSpecial (.builtin gaBE) self = pure (.builtin gaBE, [self]) := by kernel_rfl
theorem ga_entry : entryFor table gaBE = some Builtin.«object.__getattribute__» := by kernel_rfl
end L2
namespace L2
open PySem PySem.Spec PyProof.Rows L3
section
variable {prog : Program} {w : World} {A : Around} {E : Value → Shared → Prop} {s : Shared} {K : W.Frag} {x C : Addr} {ox : Obj} {od : Option Obj} {name : Str} {tk : Tok}
theorem ga_open {fill expr : Bool} {Q : Value → Shared → Prop} (X : K.In s.heap) (I : W.InstAt s.heap x ox C od) (hga : W.findIn K (.ref C) (Str.ofString "__getattribute__") = some (some (.builtin gaBE))) (hgt : W.findIn K (.ref C) (Str.ofString "__getattr__") = some none)
  (hbe : W.mroIn K C (.type "BaseException") = some true)
  (h : wpAny (model prog w) A.in1 (Builtin.«object.__getattribute__» { pos := [.ref x, .str name tk] }) (fun fin s' => ∃ v, fin = Fin.done (Flow.ret v) ∧ wpAny (model prog w) A (handedOut v) Q E s') (fun _ _ => False) s) :
  wpAny (model prog w) A (getAttrBy (.ref x) (.str name tk) fill expr) Q E s := by
 have L0 := W.InstAt.type (M := model prog w) I
 have L1 := W.looks_findIn (M := model prog w) X hga
 have L2 := W.looks_findIn (M := model prog w) X hgt
 unfold getAttrBy
 refine wpAny_holding (wpAny_bind (L0.here (wpAny_bind (L1.here ?_))))
 show wpAny (model prog w) A (if (onTheHeap (.ref C) && (Value.builtin gaBE == Value.builtin "object.__getattribute__")) = true then _ else getAttrByItsOwn (.ref x) (.str name tk) (.ref C) (.builtin gaBE) fill expr) Q E s
 have e1 : (onTheHeap (.ref C) && (Value.builtin gaBE == Value.builtin "object.__getattribute__")) = false := by
  show (true && (Value.builtin gaBE == Value.builtin "object.__getattribute__")) = false
  decide +kernel
 rw [e1, if_neg Bool.false_ne_true]
 unfold getAttrByItsOwn
 refine wpAny_bind (L2.here ?_)
 refine wpAny_bind (wpAny_attempt (wpAny_holding ?_))
 have ec : callGetattribute (.ref x) (.str name tk) (.builtin gaBE) expr = boundAndCalled (.builtin gaBE) (.ref x) (.str name tk) := by
  unfold callGetattribute
  rw [if_neg (by cases expr <;> decide)]
 rw [ec]
 unfold boundAndCalled
 rw [ga_bind]
 refine wpAny_bind (wpAny_pure ?_)
 show wpAny (model prog w) A (call (.builtin gaBE) [.ref x, .str name tk]) _ _ s
 have sub : W.Looks (model prog w) s.heap (isInstance (.ref x) (.type "BaseException")) true := W.Looks.andThen (W.InstAt.type I) (W.looks_mroIn X hbe)
 have h5 := ga_args (.ref x) (.str name tk)
 refine wpAny_call ?_
 refine codeAny_call_builtin ga_plain ga_entry ?_
 refine wpAny_mono (@W.check_slot (model prog w) A.in1 (fun _ _ => False) s gaBE "BaseException" "__getattribute__" (.ref x) [.str name tk] [] (fun _ s₁ => s₁ = s) ga_kind ga_split sub h5 rfl) (fun _ s1 e => ?_) fun _ _ z => False.elim z
 subst e
 refine wpAny_mono h (fun fin s' z => ?_) fun _ _ z => False.elim z
 obtain ⟨v, e, z⟩ := z
 subst e
 exact z
theorem ga_body {Q : Value → Shared → Prop} {r : Builtin.ObjectAttr.Found} (X : K.In s.heap) (I : W.InstAt s.heap x ox C od) (hf : W.findObj K C od name = some r)
  (h : wpAny (model prog w) A (match r with
    | Builtin.ObjectAttr.Found.value v => ret v
    | Builtin.ObjectAttr.Found.bind g a => Builtin.ObjectAttr.bindTo g a (.ref x) (.ref C)
    | Builtin.ObjectAttr.Found.missing => unsupported "no") (fun fin s' => ∃ v, fin = Fin.done (Flow.ret v) ∧ Q v s') (fun _ _ => False) s) (hr : r ≠ .missing) :
  wpAny (model prog w) A (Builtin.«object.__getattribute__» { pos := [.ref x, .str name tk] }) (fun fin s' => ∃ v, fin = Fin.done (Flow.ret v) ∧ Q v s') (fun _ _ => False) s := by
 have L0 := W.InstAt.type (M := model prog w) I
 have L1 := W.looks_find (M := model prog w) X I hf
 refine wpAny_bind (wpAny_pure ?_)
 refine wpAny_bind (wpAny_pure ?_)
 refine wpAny_bind (L0.here (wpAny_bind (L1.here ?_)))
 cases r with
 | value v => exact h
 | bind g a => exact h
 | missing => exact absurd rfl hr
end
end L2
namespace L2
open PySem PySem.Spec PyProof.Rows L3
theorem own_VE : classOwn (Value.type "ValueError") (Str.ofString "__setattr__") = pure none := by kernel_rfl
theorem own_E : classOwn (Value.type "Exception") (Str.ofString "__setattr__") = pure none := by kernel_rfl
theorem own_BE : classOwn (Value.type "BaseException") (Str.ofString "__setattr__") = pure none := by kernel_rfl
theorem onlyExc_refs : ∀ {l : List Value}, onlyExc l = true → ∃ as : List Addr, l = as.map Value.ref ++ bmVE
 | [], h => by cases h
 | v :: r, h => by
  cases v with
  | ref a =>
   obtain ⟨as, e⟩ := onlyExc_refs (l := r) h
   exact ⟨a :: as, by rw [e]; rfl⟩
  | type a =>
   have h' : (a == "ValueError" && (r == [.type "Exception", .type "BaseException", .type "object"])) = true := h
   rw [Bool.and_eq_true] at h'
   refine ⟨[], ?_⟩
   rw [eq_of_beq h'.1, eq_of_beq h'.2]
   rfl
  | _ => cases h
theorem refuse_exc (self : Value) : ∀ as : List Addr, refuseLoop self (Str.ofString "__setattr__") (as.map Value.ref ++ bmVE) = pure ()
 | [] => by
  have e := W.refuse_only self (l := [.type "object"]) rfl
  show refuseLoop self (Str.ofString "__setattr__") [.type "ValueError", .type "Exception", .type "BaseException", .type "object"] = pure ()
  unfold refuseLoop at e ⊢
  simp only [List.forIn_cons, own_VE, own_E, own_BE, pure_bind, Option.isSome_none, Bool.false_eq_true, if_false] at e ⊢
  exact e
 | a :: as => by
  have e := refuse_exc self as
  rw [List.map_cons, List.cons_append]
  unfold refuseLoop at e ⊢
  rw [List.forIn_cons]
  simp only [pure_bind]
  exact e
section
variable {prog : Program} {w : World} {A : Around} {K : W.Frag} {C x : Addr} {s : Shared} {ox : Obj} {od : Option Obj} {name : Str} {tk : Tok} {v : Value}
theorem osa_openX {R : Result → Shared → Prop} {cd : ClassData} (X : K.In s.heap) (I : W.InstAt s.heap x ox C od) (hc : W.clsIn K C = some cd) (ho : onlyExc cd.mro = true) (ha : W.findIn K (.ref C) name = some none)
  (h : wpAny (model prog w) A.in1 (Builtin.ObjectAttr.storeInOwnDict (.ref x) (.ref C) (.str name tk) name v false)
   (fun fin s' => match fin with | Fin.done f => R (Except.ok f) s' | Fin.again c' => c'.quiet = true ∧ codeAny (model prog w) A c' R s') (fun e s' => R (Except.error e) s') s) :
  codeAny (model prog w) A (Code.call (.builtin "object.__setattr__") { pos := [.ref x, .str name tk, v] }) R s := by
 have SF := F.store_object
 obtain ⟨as, em⟩ := onlyExc_refs ho
 have ne : cd.mro.isEmpty = false := by rw [em]; cases as <;> rfl
 have hob : cd.mro.contains (.type "object") = true := by rw [em, List.contains_eq_mem]; exact decide_eq_true (List.mem_append_right _ (by simp))
 have sub : W.Looks (model prog w) s.heap (isInstance (.ref x) (.type "object")) true := W.Looks.andThen (W.InstAt.type I) (W.looks_mroIn X (by
  unfold W.mroIn
  rw [hc, Option.bind_some, if_neg (by rw [ne]; exact Bool.false_ne_true), hob]))
 have hm : W.Looks (model prog w) s.heap (mroOf (.ref C)) cd.mro := W.Looks.andThen (W.looks_clsIn X hc) W.Looks.now
 have h1 := SF.slot.plain
 have h2 := SF.entry
 have h3 := SF.kind
 have h4 := SF.split
 have h5 := SF.args (.ref x) (.str name tk) v
 have goal : wpAny (model prog w) A.in1 (Builtin.«object.__setattr__» { pos := [Value.ref x, Value.str name tk, v] })
   (fun fin s' => match fin with | Fin.done f => R (Except.ok f) s' | Fin.again c' => c'.quiet = true ∧ codeAny (model prog w) A c' R s') (fun e s' => R (Except.error e) s') s := by
  rw [W.osa_eq, refuse_eq]
  refine wpAny_bind (wpAny_bind (W.Looks.here (W.InstAt.type I) (wpAny_bind (W.Looks.here hm ?_))))
  rw [em, refuse_exc]
  exact wpAny_pure (wpAny_bind (W.Looks.here (W.InstAt.type I) (wpAny_bind (W.Looks.here (W.looks_findIn X ha) (wpAny_bind (wpAny_pure h))))))
 refine codeAny_call_builtin h1 h2 ?_
 exact @W.check_slot (model prog w) A.in1 (fun e s' => R (Except.error e) s') s "object.__setattr__" "object" "__setattr__" (.ref x) [.str name tk, v] [] (fun _ s₁ => wpAny (model prog w) A.in1 (Builtin.«object.__setattr__» { pos := [Value.ref x, Value.str name tk, v] })
   (fun fin s' => match fin with | Fin.done f => R (Except.ok f) s' | Fin.again c' => c'.quiet = true ∧ codeAny (model prog w) A c' R s') (fun e s' => R (Except.error e) s') s₁) h3 h4 sub h5 goal
theorem set_exc0 {vs : Array Value} {sl : Array (Option Value)} {cd : ClassData} {Q : Unit → Shared → Prop} {E : Value → Shared → Prop} (X : K.In s.heap) (hx : s.heap.get? x = some ⟨.ref C, none, .fields vs, sl⟩)
  (hs : W.findIn K (.ref C) "__setattr__" = some (some (.builtin "object.__setattr__"))) (hc : W.clsIn K C = some cd) (ho : onlyExc cd.mro = true) (hd : cd.hasDict = true) (ha : W.findIn K (.ref C) name = some none)
  (h : ∀ h', h'.get? x = some ⟨.ref C, some s.heap.objs.size, .fields vs, sl⟩ → h'.Ns1 s.heap.objs.size (fun y => if y = name then some v else none) → (∀ b o, b ≠ x → s.heap.get? b = some o → h'.get? b = some o) → Q () { s with heap := h', toks := s.toks + 2 }) :
  wpAny (model prog w) A (setAttr (.ref x) name v) Q E s := by
 have J : W.InstAt s.heap x ⟨.ref C, none, .fields vs, sl⟩ C none := ⟨hx, rfl, rfl, True.intro⟩
 have nx : x ≠ s.heap.objs.size := Nat.ne_of_lt (Heap.lt_size hx)
 refine W.set_plain X J hs (osa_openX (s := { s with toks := s.toks + 1 }) X J hc ho ha ?_)
 refine wpAny_bind (wpAny_pure (wpAny_bind (wpAny_bind (wpAny_loadPart hx (wpAny_bind (W.Looks.here (s := { s with toks := s.toks + 1 }) (W.looks_clsIn X hc) ?_))))))
 rw [hd]
 refine wpAny_bind (wpAny_alloc (wpAny_bind ?_))
 have x1 : (s.heap.push { cls := .type "dict", data := .dict #[] }).get? x = some ⟨.ref C, none, .fields vs, sl⟩ := Heap.get?_push_of_some _ hx
 refine wpAny_update x1 ?_
 refine wpAny_pure (a := some s.heap.objs.size) (wpAny_bind (wpAny_pure (wpAny_bind ?_)))
 have d1 : (s.heap.push { cls := .type "dict", data := .dict #[] }).get? s.heap.objs.size = some { cls := .type "dict", data := .dict #[] } := Heap.get?_push_size _ rfl
 generalize hh1 : (s.heap.push { cls := .type "dict", data := .dict #[] }).update x (fun o => { cls := o.cls, dict := some s.heap.objs.size, data := o.data, slots := o.slots }) = h1
 have x2 : h1.get? x = some ⟨.ref C, some s.heap.objs.size, .fields vs, sl⟩ := by rw [← hh1]; exact Heap.get?_update_self _ x1 rfl
 have d2 : h1.get? s.heap.objs.size = some { cls := .type "dict", data := .dict #[] } := by rw [← hh1, Heap.get?_update_other _ _ nx]; exact d1
 have n2 : h1.Ns1 s.heap.objs.size (fun _ => none) := ⟨_, _, _, d2, rfl, fun e he => absurd he (by simp), List.Pairwise.nil, fun _ => rfl⟩
 refine wpAny_nsSet1 (s := { s with heap := h1, toks := s.toks + 1 }) n2 fun h' hn2 hs2 => ?_
 have wi : PySem.Within (fun _ : Str => (none : Option Value)) [] := fun g hg => absurd rfl hg
 obtain ⟨oD, esD, epD, hoD, hdD, hcD⟩ := hn2.count (PySem.Within.cons name v wi)
 refine wpAny_bind (wpAny_lookBehind hoD (by rw [hdD]; exact pastItsLine_dict (Nat.le_trans hcD (by show 1 ≤ sizeLine + 1; decide))) ?_)
 refine wpAny_pure (h _ ((hs2.2 _ nx).trans x2) hn2 fun b o nb e => ?_)
 have nd : b ≠ s.heap.objs.size := Nat.ne_of_lt (Heap.lt_size e)
 rw [hs2.2 _ nd]
 show h1.get? b = some o
 rw [← hh1, Heap.get?_update_other _ _ (Ne.symm nb)]
 exact Heap.get?_push_of_some _ e
theorem set_exc1 {vs : Array Value} {sl : Array (Option Value)} {cd : ClassData} {dx : Addr} {mA : Str → Option Value} {ns : List Str} {Q : Unit → Shared → Prop} {E : Value → Shared → Prop} (X : K.In s.heap) (hx : s.heap.get? x = some ⟨.ref C, some dx, .fields vs, sl⟩)
  (hn : s.heap.Ns1 dx mA) (hw : PySem.Within mA ns) (hsz : ns.length ≤ sizeLine)
  (hs : W.findIn K (.ref C) "__setattr__" = some (some (.builtin "object.__setattr__"))) (hc : W.clsIn K C = some cd) (ho : onlyExc cd.mro = true) (hd : cd.hasDict = true) (ha : W.findIn K (.ref C) name = some none)
  (h : ∀ h', h'.Ns1 dx (fun y => if y = name then some v else mA y) → Heap.SameBut dx s.heap h' → Q () { s with heap := h', toks := s.toks + 2 }) :
  wpAny (model prog w) A (setAttr (.ref x) name v) Q E s := by
 obtain ⟨od, ho1, hl⟩ := lookIn_ns hn
 have J : W.InstAt s.heap x ⟨.ref C, some dx, .fields vs, sl⟩ C (some od) := ⟨hx, rfl, rfl, ho1⟩
 refine W.set_plain X J hs (osa_openX (s := { s with toks := s.toks + 1 }) X J hc ho ha ?_)
 refine wpAny_bind (wpAny_pure (wpAny_bind (wpAny_bind (wpAny_loadPart hx (wpAny_bind (W.Looks.here (s := { s with toks := s.toks + 1 }) (W.looks_clsIn X hc) ?_))))))
 rw [hd]
 refine wpAny_pure (a := some dx) (wpAny_bind (wpAny_pure (wpAny_bind ?_)))
 refine wpAny_nsSet1 (s := { s with toks := s.toks + 1 }) hn fun h' hn2 hs2 => ?_
 obtain ⟨oD, esD, epD, hoD, hdD, hcD⟩ := hn2.count (PySem.Within.cons name v hw)
 refine wpAny_bind (wpAny_lookBehind hoD (by rw [hdD]; exact pastItsLine_dict (Nat.le_trans hcD (by rw [List.length_cons]; omega))) ?_)
 exact wpAny_pure (h _ hn2 hs2)
end
end L2
namespace L2
open PySem PySem.Spec PyProof.Rows L3
def XClsI (K : W.Frag) (C : Addr) : Prop := excInI K C bmVE "ValueError.__new__" = true
theorem XClsI.at {K : W.Frag} {C : Addr} {h : Heap} (x : XClsI K C) (X : K.In h) : ∃ oi, XAt h C oi := by
 unfold XClsI excInI at x
 split at x
 ·rename_i dd cd sl ho
  split at x
  ·rename_i C' bm k0 k1 k2 k3 n k5 hm hs
   simp only [Bool.and_eq_true, beq_iff_eq, Bool.not_eq_true'] at x
   obtain ⟨⟨⟨⟨e1, e2⟩, hdel⟩, ht⟩, hok⟩ := x
   subst e1 e2
   obtain ⟨nm, bs, mro, ns, qn, hd, sn, sub, ab, col, del⟩ := cd
   dsimp only at hm hdel hok
   subst hm hdel
   have hsl : sl = #[k0, k1, k2, k3, some (.builtin "ValueError.__new__"), k5] := by
    obtain ⟨l⟩ := sl
    exact congrArg Array.mk hs
   subst hsl
   exact ⟨_, nm, qn, ns, bs, bm, hd, sn, sub, ab, col, dd, k0, k1, k2, k3, k5, _, X _ _ ho, .of_isNs (W.isNs_of_in X hok), rfl, W.tail_of_in X ht⟩
  ·cases x
 ·cases x
section
variable {prog : Program} {w : World} {A : Around} {E : Value → Shared → Prop} {h : Heap} {g : Array GenState} {d : Drawn} {t : Nat} {os : OsState} {C f : Addr}
theorem exc_madeI {us : List Value} {Q : Fin → Shared → Prop} {oi : Option Value} (x : XAt h C oi) (hz : us.length ≤ sizeLine)
  (hl : ∀ h', (∀ b o, h.get? b = some o → h'.get? b = some o) → W.Looks (model prog w) h' (typeLookup (.ref C) "__init__") (some (.ref f)))
  (hb : ∀ h' self, (∀ b o, h.get? b = some o → h'.get? b = some o) → W.Looks (model prog w) h' (bindSpecial (.ref f) self) (.ref f, [self]))
  (hq : wpAny (model prog w) A (call (.ref f) (.ref (h.objs.size + 1) :: us)) (fun v s' => v = .none ∧ Q (.done (.ret (.ref (h.objs.size + 1)))) s') E ⟨(h.push (argT us)).push (newX C h.objs.size), g, d, t, os⟩) :
  wpAny (model prog w) A (Builtin.«type.__call__» ⟨.ref C :: us, []⟩) Q E ⟨h, g, d, t, os⟩ := by
 obtain ⟨nm, q, N, bs, bm, hdct, sn, sub, ab, col, dd, k0, k1, k2, k3, k5, mN, hC, hN, hi, T⟩ := x
 have Fv := PySem.F.excBase_ValueError
 repeat (first | (with_reducible refine wpAny_loadPart_at hC ?_) | (with_reducible refine wpAny_madeBy_exc hC ?_) | wp_step)
 refine codeAny_call_builtin_code (Code.quiet_builtin _ Fv.quiet) (wpAny_check_new_subU Fv rfl T hC (codeAny_exc_new_subU Fv rfl Fv T hC ?_ hz))
 show wpAny _ _ _ _ _ _
 have kk : ∀ b o, h.get? b = some o → ((h.push { cls := .type "tuple", data := .seq us.toArray }).push { cls := .ref C, data := .fields #[.ref h.objs.size, .none, .none, .none, .bool false, .none] }).get? b = some o := fun b o z => Heap.get?_push_of_some _ (Heap.get?_push_of_some _ z)
 have c1 := kk _ _ hC
 have ge : ((h.push { cls := .type "tuple", data := .seq us.toArray }).push { cls := .ref C, data := .fields #[.ref h.objs.size, .none, .none, .none, .bool false, .none] }).get? (h.objs.size + 1) = some { cls := .ref C, data := .fields #[.ref h.objs.size, .none, .none, .none, .bool false, .none] } := by heap_get
 have cc : (Value.ref C :: bm).contains (.ref C) = true := by simp
 unfold isInstance
 repeat (first | (with_reducible refine wpAny_loadPart_at ge ?_) | (with_reducible refine wpAny_isSubtype_exc c1 ?_; rw [cc]) | wp_step)
 show wpAny _ _ (typeLookup (.ref C) _) _ _ _
 refine (hl _ kk).at ?_
 refine wpAny_holding (wpAny_bind ((hb _ _ kk).at (wpAny_bind (wpAny_mono hq (fun v s' z => ?_) fun _ _ y => y))))
 obtain ⟨e, z⟩ := z
 subst e
 exact wpAny_pure (wpAny_pure z)
theorem exc_callI {us : List Value} {Q : Value → Shared → Prop} {oi : Option Value} (x : XAt h C oi) (hz : us.length ≤ sizeLine)
  (hl : ∀ h', (∀ b o, h.get? b = some o → h'.get? b = some o) → W.Looks (model prog w) h' (typeLookup (.ref C) "__init__") (some (.ref f)))
  (hb : ∀ h' self, (∀ b o, h.get? b = some o → h'.get? b = some o) → W.Looks (model prog w) h' (bindSpecial (.ref f) self) (.ref f, [self]))
  (hq : wpAny (model prog w) (A.under (Code.builtin "type.__call__" ⟨.ref C :: us, []⟩)) (call (.ref f) (.ref (h.objs.size + 1) :: us)) (fun v s' => v = .none ∧ Q (.ref (h.objs.size + 1)) s') E ⟨(h.push (argT us)).push (newX C h.objs.size), g, d, t, os⟩) :
  wpAny (model prog w) A (call (.ref C) us) Q E ⟨h, g, d, t, os⟩ := by
 obtain ⟨nm, q, N, bs, bm, hdct, sn, sub, ab, col, dd, k0, k1, k2, k3, k5, mN, hC, r⟩ := id x
 have f1 := tc_lookup
 have f2 := tc_bind (.ref C)
 have hT : (⟨h, g, d, t, os⟩ : Shared).TypeIs (.ref C) "type" := ⟨_, hC, rfl⟩
 refine wpAny_call (codeAny_of_tree ?_)
 show wpAny _ _ (callAny (.ref C) _) _ _ _
 repeat (any_goals (first | assumption | (with_reducible refine wpAny_loadPart_at hC ?_) | wp_step))
 exact ⟨rfl, codeAny_call_builtin_at (Code.quiet_builtin _ (by decide +kernel)) entry_typeCall (wpAny_check_type_call_sub hC (exc_madeI x hz hl hb hq))⟩
end
end L2
namespace L2
open PySem PySem.Spec PyProof.Rows L3
def xdo (d : Addr) (fs : List (Str × V)) : HO := .ext fun h => fs.length ≤ 1000 ∧ ∃ mA, h.Ns1 d mA ∧ (∀ f, RelO (fs.lookup f) (mA f)) ∧ PySem.Within mA (fs.map (·.1))
theorem xdo_ok {P : Program} {w : World} {H : Hp} {h : Heap} {d : Addr} {fs : List (Str × V)} {mA : Str → Option Value} (l : fs.length ≤ 1000) (n : h.Ns1 d mA) (r : ∀ f, RelO (fs.lookup f) (mA f)) (wi : PySem.Within mA (fs.map (·.1))) : ObjOk P w H h d (xdo d fs) := by
 refine ⟨⟨l, mA, n, r, wi⟩, ?_, fun h1 h2 ⟨l, m, n, r⟩ k => ⟨l, m, ?_, r⟩⟩
 ·obtain ⟨o, _, _, e, _⟩ := n
  exact ⟨o, e⟩
 ·obtain ⟨o, es, ep, e, c⟩ := n
  exact ⟨o, es, ep, k _ e, c⟩
def exv (ea : Addr) (c : Value) (dd : Option Addr) (vs : Array Value) : HO := .ext fun h => ∃ o, h.get? ea = some o ∧ o.cls = c ∧ o.dict = dd ∧ o.data = .fields vs
theorem exv_ok {P : Program} {w : World} {H : Hp} {h : Heap} {ea : Addr} {c : Value} {dd : Option Addr} {vs : Array Value} {sl : Array (Option Value)} (e : h.get? ea = some ⟨c, dd, .fields vs, sl⟩) : ObjOk P w H h ea (exv ea c dd vs) :=
 ⟨⟨_, e, rfl, rfl, rfl⟩, ⟨_, e⟩, fun _ _ ⟨o, e, r⟩ k => ⟨o, k o e, r⟩⟩
def del (H : Hp) (a : Addr) : Hp := fun b => if b = a then none else H b
theorem del_same {H : Hp} {a : Addr} : del H a a = none := by unfold del; rw [if_pos rfl]
theorem del_ne {H : Hp} {a b : Addr} (h : b ≠ a) : del H a b = H b := by unfold del; rw [if_neg h]
theorem del_some {H : Hp} {a b : Addr} {o : HO} (h : del H a b = some o) : b ≠ a ∧ H b = some o := by
 unfold del at h
 split at h
 ·cases h
 ·rename_i n; exact ⟨n, h⟩
theorem del_none {H : Hp} {a b : Addr} (h : H b = none) : del H a b = none := by
 unfold del
 split
 ·rfl
 ·exact h
theorem Inv.del {X : Cx} {pins : List (Addr × Obj)} {σ : St} {H : Hp} {s : Shared} {a : Addr} {φ : Heap → Prop} (I : Inv X pins σ H s) (e : H a = some (.ext φ)) : Inv X pins σ (del H a) s := by
 refine ⟨I.ok, I.os, I.bare, ⟨I.base.keep, I.base.slot, fun b o q n hx => del_none (I.base.free b o q n hx), I.base.there, fun b xs q => ?_, fun b o u q => ?_, fun b ps q => ?_⟩, I.loc, I.cell, del_none I.free, fun x c q => del_none (I.freeC x c q), fun p hp => ?_, fun b u q => ?_, I.len⟩
 ·have z := I.base.tups b xs q
  rw [del_ne (ne_of z e (by intro y; cases y))]; exact z
 ·have z := I.base.frzs b o u q
  rw [del_ne (ne_of z e (by intro y; cases y))]; exact z
 ·obtain ⟨m, z⟩ := I.base.tbls b ps q
  exact ⟨m, by rw [del_ne (ne_of z e (by intro y; cases y))]; exact z⟩
 ·obtain ⟨z1, z2, z3⟩ := I.pin p hp
  exact ⟨z1, del_none z2, z3⟩
 ·obtain ⟨nb, q⟩ := del_some q
  refine (I.hok b u q).stay (fun _ _ _ z => z) (fun c z => ?_) fun c xs z => ?_
  ·rw [del_ne (ne_of z e (by intro y; cases y))]; exact z
  ·rw [del_ne (ne_of z e (by intro y; cases y))]; exact z
structure XF (K : PySem.W.Frag) (C : Addr) : Prop where
 sa : W.findIn K (.ref C) "__setattr__" = some (some (.builtin "object.__setattr__"))
 cd : ∃ cd, W.clsIn K C = some cd ∧ onlyExc cd.mro = true ∧ cd.hasDict = true
 ga : W.findIn K (.ref C) (Str.ofString "__getattribute__") = some (some (.builtin gaBE))
 gt : W.findIn K (.ref C) (Str.ofString "__getattr__") = some none
 be : W.mroIn K C (.type "BaseException") = some true
section
variable {X : Cx} {pins : List (Addr × Obj)} {σ : St} {H : Hp} {s : Shared} {a C d : Addr} {fs : List (Str × V)} {f : Str} {v : V} {A : Around} {E : Value → Shared → Prop}
theorem exv_at {P : Program} {w : World} {h : Heap} {c : Value} {dd : Option Addr} {vs : Array Value} (ok : HOk P w H h) (e : H a = some (exv a c dd vs)) : ∃ sl, h.get? a = some ⟨c, dd, .fields vs, sl⟩ := by
 obtain ⟨⟨o, q, hc, hd, hv⟩, _⟩ := ok a _ e
 obtain ⟨c', d', dt, sl⟩ := o
 dsimp only at hc hd hv
 subst hc hd hv
 exact ⟨sl, q⟩
theorem exo_at {P : Program} {w : World} {h : Heap} {c : Value} {dd : Option Addr} (ok : HOk P w H h) (e : H a = some (exo a c dd)) : ∃ vs sl, h.get? a = some ⟨c, dd, .fields vs, sl⟩ := by
 obtain ⟨⟨o, vs, q, hc, hd, hv⟩, _⟩ := ok a _ e
 obtain ⟨c', d', dt, sl⟩ := o
 dsimp only at hc hd hv
 subst hc hd hv
 exact ⟨vs, sl, q⟩
theorem xdo_at {P : Program} {w : World} {h : Heap} (ok : HOk P w H h) (e : H d = some (xdo d fs)) : fs.length ≤ 1000 ∧ ∃ mA, h.Ns1 d mA ∧ (∀ f, RelO (fs.lookup f) (mA f)) ∧ PySem.Within mA (fs.map (·.1)) := (ok d _ e).1
theorem setx0_ok {y : V} {u : Value} {Q : Unit → Shared → Prop} (I : Inv X pins σ H s) {vs : Array Value} (e : H a = some (exv a (.ref C) none vs)) (c : XF X.K C) (n : NoAttr X.K C f) (ry : RelV y u)
  (h : ∀ d s', H d = none → Inv X pins σ (upd (upd H a (exv a (.ref C) (some d) vs)) d (xdo d [(f, y)])) s' → Q () s') : wpAny (model X.prog X.w) A (setAttr (.ref a) f u) Q E s := by
 obtain ⟨sl, hx⟩ := exv_at I.hok e
 obtain ⟨cd, h1, h2, h3⟩ := c.cd
 refine set_exc0 I.kIn hx c.sa h1 h2 h3 n fun h' x' n' k => h s.heap.objs.size _ (I.hok.fresh (Nat.le_refl _)) ?_
 have I1 : Inv X pins σ (upd H a (exv a (.ref C) (some s.heap.objs.size) vs)) { s with heap := h', toks := s.toks + 2 } :=
  I.write (x := a) (e := a) (by rw [e]; exact True.intro) (.inl rfl) (fun b q hb z => k b q hb z) ⟨_, x'⟩ (exv_ok x')
 have hn : upd H a (exv a (.ref C) (some s.heap.objs.size) vs) s.heap.objs.size = none := by
  rw [upd_ne (Nat.ne_of_gt (Heap.lt_size hx))]; exact I.hok.fresh (Nat.le_refl _)
 have fp : FpOk X pins (upd H a (exv a (.ref C) (some s.heap.objs.size) vs)) s.heap.objs.size := I.fpOk (Nat.le_refl _) hn
 refine I1.adopt hn I.sz fp.2.1 fp.2.2.2.2.1 fp.2.2.2.2.2 (xdo_ok (by show 1 ≤ 1000; decide) n' (fun g => ?_) fun g hg => ?_)
 ·show RelO (([(f, y)] : List (Str × V)).lookup g) (if g = f then some u else none)
  by_cases q : g = f
  ·rw [if_pos q, q, List.lookup_cons_self]; exact ry
  ·rw [if_neg q, List.lookup_cons, beq_eq_false_iff_ne.mpr q]; exact True.intro
 ·by_cases q : g = f
  ·rw [q]; exact List.mem_singleton.mpr rfl
  ·exact absurd (if_neg q) hg
theorem setx1_ok {y : V} {u : Value} {Q : Unit → Shared → Prop} (I : Inv X pins σ H s) {vs : Array Value} (e : H a = some (exv a (.ref C) (some d) vs)) (ed : H d = some (xdo d fs)) (c : XF X.K C) (n : NoAttr X.K C f) (hl : fs.length < 1000) (ry : RelV y u)
  (h : ∀ s', Inv X pins σ (upd H d (xdo d (putF f y fs))) s' → Q () s') : wpAny (model X.prog X.w) A (setAttr (.ref a) f u) Q E s := by
 obtain ⟨sl, hx⟩ := exv_at I.hok e
 obtain ⟨_, mA, hn, r, wi⟩ := xdo_at I.hok ed
 obtain ⟨cd, h1, h2, h3⟩ := c.cd
 have hz : (fs.map (·.1)).length ≤ sizeLine := by rw [List.length_map, sizeLine_eq]; omega
 refine set_exc1 I.kIn hx hn wi hz c.sa h1 h2 h3 n fun h' n' sb => h _ ?_
 have hd : ∃ o, h'.get? d = some o := let ⟨o, _, _, e', _⟩ := n'; ⟨o, e'⟩
 refine I.write (x := d) (e := d) (by rw [ed]; exact True.intro) (.inl rfl) (fun b q hb z => (sb.2 b hb).trans z) hd (xdo_ok ?_ n' (fun g => ?_) fun g hg => ?_)
 ·have := length_putF f y fs; omega
 ·show RelO ((putF f y fs).lookup g) (if g = f then some u else mA g)
  rw [lookup_putF]
  by_cases q : g = f
  ·rw [if_pos q, if_pos q]; exact ry
  ·rw [if_neg q, if_neg q]; exact r g
 ·by_cases q : g = f
  ·rw [q]; exact (keys_putF f y fs).1
  ·refine (keys_putF f y fs).2 g (wi g fun z => hg ?_)
   show (if g = f then some u else mA g) = none
   rw [if_neg q]; exact z
end
def sFldX0 (K : PySem.W.Frag) (ta tv : TE) (f : Str) : TS := fun D σ H => tv σ H fun y H1 => ta σ H1 fun x H2 => ∃ a C vs, x = .ref a ∧ H2 a = some (exv a (.ref C) none vs) ∧ XF K C ∧ NoAttr K C f ∧
 ∀ d, H2 d = none → D.nx σ (upd (upd H2 a (exv a (.ref C) (some d) vs)) d (xdo d [(f, y)]))
def sFldX1 (K : PySem.W.Frag) (ta tv : TE) (f : Str) : TS := fun D σ H => tv σ H fun y H1 => ta σ H1 fun x H2 => ∃ a C vs d fs, x = .ref a ∧ H2 a = some (exv a (.ref C) (some d) vs) ∧ H2 d = some (xdo d fs) ∧ XF K C ∧ NoAttr K C f ∧ fs.length < 1000 ∧
 D.nx σ (upd H2 d (xdo d (putF f y fs)))
section
variable {X : Cx} {o e value : Expr} {f : Str} {pos pos' : Pos} {ta tv : TE}
theorem ps_fldX0 (ha : PE X o ta) (hv : PE X value tv) (hs : swapsWith value (some (.Attribute o f pos')) pos.line X.env = pure false) : PS X (.Assign [.Attribute o f pos'] value pos) (sFldX0 X.K ta tv f) := by
 intro pins s σ H D I h
 refine plainObj_wpAny_Assign_Attribute (thn (hv pins s σ H _ I h) fun u s1 ⟨y, H1, I1, ry, q⟩ => thn (ha pins s1 σ H1 _ I1 q) fun ov s2 ⟨x, H2, I2, rx, a, C, vs, ex, ea, c, n, q2⟩ => ?_) hs
 subst ex
 obtain rfl : ov = Value.ref a := rx
 exact setx0_ok I2 ea c n ry fun d s3 hd I3 => ⟨σ, _, I3, q2 d hd⟩
theorem ps_fldX1 (ha : PE X o ta) (hv : PE X value tv) (hs : swapsWith value (some (.Attribute o f pos')) pos.line X.env = pure false) : PS X (.Assign [.Attribute o f pos'] value pos) (sFldX1 X.K ta tv f) := by
 intro pins s σ H D I h
 refine plainObj_wpAny_Assign_Attribute (thn (hv pins s σ H _ I h) fun u s1 ⟨y, H1, I1, ry, q⟩ => thn (ha pins s1 σ H1 _ I1 q) fun ov s2 ⟨x, H2, I2, rx, a, C, vs, d, fs, ex, ea, ed, c, n, l, q2⟩ => ?_) hs
 subst ex
 obtain rfl : ov = Value.ref a := rx
 exact setx1_ok I2 ea ed c n l ry fun s3 I3 => ⟨σ, _, I3, q2⟩
end
structure XCI (K : PySem.W.Frag) (C f : Addr) : Prop where
 exc : XClsI K C
 init : W.findIn K (.ref C) "__init__" = some (some (.ref f))
 fn : PySem.W.isFn K (.ref f) = true
 kp : PySem.W.keepIn K (.ref C) = true
abbrev fresh6 (t : Addr) : Array Value := #[.ref t, .none, .none, .none, .bool false, .none]
def tRaiseI (C : Addr) (sp : Sp) (W : WX) (t : TA) : TS := fun _ σ H => t σ H fun vs H1 => vs.length ≤ sizeLine ∧ ∀ ea ta, H1 ea = none → sp (.ref ea :: vs) (upd H1 ea (exv ea (.ref C) none (fresh6 ta)))
 (fun r H2 => r = .non ∧ ∃ dd, H2 ea = some (exv ea (.ref C) dd (fresh6 ta)) ∧ W σ (.ref C) dd (del H2 ea)) (fun _ _ _ => False)
section
variable {X : Cx} {W : WX} {k : Nat} {C f : Addr} {fd : FuncData} {ps : List Str} {sp : Sp} {x : Str} {np cpos pos : Pos} {e : Expr} {es : List Expr} {t : TA} {P : Program} {w : World}
theorem ps_raiseI (hc : X.calm = true) (hL : Lifts X W) (xc : XCI X.K C f) (F : FnOk P w X.K X.mg X.base CX0 k f fd ps sp) (hr : Room (k + 1) X.A) (hb : Binds X.K fd ps []) (hg : Gl X x) (hm : X.mg x = some (.ref C)) (ha : PA X (e :: es) t)
  (hP : X.prog = P := by rfl) (hw : X.w = w := by rfl) (hdb : (x == ("__debug__" : Str)) = false := by decide)
  (he : starEach (e :: es) X.env = (false, eval e X.env) :: starEach es X.env := by rfl) (hpl : (backTo cpos (starEach es X.env)).any (·.1) = false := by rfl) :
  PS X (.Raise (some (.Call (.Name x np) (e :: es) [] cpos)) none pos) (tRaiseI C sp W t) := by
 subst hP hw
 intro pins s σ H D I h
 rw [arm_exec_Raise]
 refine wpAny_bind (wpAny_standAt (raise_core (C := C) (I.ok.hd hc) (wpAny_bind (wpAny_mono ?_ (fun v s3 z => wpAny_bind (wpAny_standAt (wpAny_pure z))) fun _ _ y => y))))
 refine wpAny_Call_Name_kw (ld_glob I hg hm ?_ hdb)
 refine PySem.W.callWith_K (h₀ := X.base) I.ok.mod.kin xc.kp (thn (ha cpos pins s σ H _ I h) fun us s1 ⟨vs, H1, I1, r, hz, q⟩ => ⟨I1.kIn, ?_⟩) he hpl
 obtain ⟨oi, xa⟩ := xc.exc.at I1.kIn
 obtain ⟨h1, g1, d1, t1, os1⟩ := s1
 have kin : ∀ h' : Heap, (∀ b o, h1.get? b = some o → h'.get? b = some o) → X.K.In h' := fun h' k a o z => k a o (I1.kIn a o z)
 refine exc_callI (f := f) xa (by rw [List.nil_append, ← r.length]; exact hz) (fun h' k => PySem.W.looks_findIn (kin h' k) xc.init) (fun h' self k => PySem.W.bind_fn (kin h' k) self (beq_iff_eq.mp xc.fn)) ?_
 rw [List.nil_append]
 have fr : H1 (h1.objs.size + 1) = none := I1.hok.fresh (Nat.le_succ _)
 have q1 := q (h1.objs.size + 1) h1.objs.size fr
 have ge : ((h1.push (argT us)).push (newX C h1.objs.size)).get? (h1.objs.size + 1) = some (newX C h1.objs.size) := by heap_get
 have I2 : Inv X pins σ (upd H1 (h1.objs.size + 1) (exv (h1.objs.size + 1) (.ref C) none (fresh6 h1.objs.size))) ⟨(h1.push (argT us)).push (newX C h1.objs.size), g1, d1, t1, os1⟩ :=
  I1.laid (t' := t1) (h' := (h1.push (argT us)).push (newX C h1.objs.size)) (fun b o z => Heap.get?_push_of_some _ (Heap.get?_push_of_some _ z)) (Nat.le_succ _) (exv_ok ge)
 have r2 : Vals (V.ref (h1.objs.size + 1) :: vs) (Value.ref (h1.objs.size + 1) :: us) := .cons rfl r
 have hl : (Value.ref (h1.objs.size + 1) :: us ++ []).length = ps.length := by
  have e := r2.length
  rw [F.len _ _ _ _ q1] at e
  rw [List.append_nil]
  exact e.symm
 have hb2 := hb _ (Value.ref (h1.objs.size + 1) :: us) I2.kIn hl
 rw [List.append_nil] at hb2
 refine wpAny_call (codeAny_mono (F.run _ X.stack _ _ ⟨Value.ref (h1.objs.size + 1) :: us, []⟩ (Value.ref (h1.objs.size + 1) :: us) _ _ _ (hr.make C us []) (I2.env0.make C us []) hb2 r2 q1) fun r s' hq' => ?_)
 cases r with
 | error e => exact (show False from hq').elim
 | ok fl =>
  cases fl with
  | next => exact False.elim hq'
  | brk => exact False.elim hq'
  | cont => exact False.elim hq'
  | ret u =>
   obtain ⟨v, H', I3, rv, ev, dd, e3, q3⟩ := I2.after hq'
   subst ev
   obtain ⟨sl, hx⟩ := exv_at I3.hok e3
   obtain ⟨oi', xa'⟩ := xc.exc.at I3.kIn
   refine ⟨rv, _, _, _, _, _, rfl, xa', hx, rfl, rfl, rfl, rfl, hL _ _ _ _ _ _ _ (tb := none) ⟨I3.del e3, ⟨⟨_, _, _, hx, rfl, rfl, rfl, rfl, rfl, fun _ => rfl⟩, fun T z => by cases z⟩, I1.fpOk (Nat.le_succ _) del_same, fun T z => by cases z⟩ q3⟩
end
end L2
namespace L2
open PySem PySem.Spec PySem.W PyProof.Rows L3
theorem findObj_dataO {K : Frag} {C : Addr} {od : Option Obj} {name : Str} {a g : Value} (hc : (clsIn K C).isSome = true) (ha : findIn K (.ref C) name = some (some a)) (hn : specialIn K a (Str.ofString "__get__") = some (some g)) (ht : takesIn K a = some true) :
  findObj K C od name = some (.bind g a) := by
 obtain ⟨cd, hcd⟩ := Option.isSome_iff_exists.mp hc
 unfold findObj
 rw [hcd, ha]
 simp only [Option.bind_some]
 rw [hn]
 simp only [Option.bind_some]
 rw [ht]
 simp only [Option.bind_some]
structure XK1 (K : Frag) (D : Addr) : Prop where
 ga : findIn K (.ref D) (Str.ofString "__getattribute__") = some (some (.builtin gaBE))
 gn : findIn K (.ref D) (Str.ofString "__getattr__") = some none
 be : mroIn K D (.type "BaseException") = some true
 hd : hasDictIn K D = true
 cl : findIn K (.ref D) (Str.ofString "__class__") = some (some (.builtin "object.__class__"))
 gt : specialIn K (.builtin "object.__class__") (Str.ofString "__get__") = some (some (.builtin "getset_descriptor.__get__"))
 tk : takesIn K (.builtin "object.__class__") = some true
 mr : mroIn K D (.type "object") = some true
theorem kin_classO {prog : Program} {w : World} {A : Around} {E : Value → Shared → Prop} {s : Shared} {K : Frag} {x D : Addr} {ox : Obj} {od : Option Obj} {Q : Option Value → Shared → Prop} (c : XK1 K D) (X : K.In s.heap) (I : InstAt s.heap x ox D od)
  (h : Q (some (.ref D)) { s with toks := s.toks + 1 }) : wpAny (model prog w) A (getAttr? (.ref x) (Str.ofString "__class__")) Q E s := by
 have hf := findObj_dataO (od := od) (by obtain ⟨cd, hc, _⟩ := any_some c.hd; rw [hc]; rfl) c.cl c.gt c.tk
 unfold getAttr? getAttrBy?
 refine wpAny_bind (wpAny_mkText (wpAny_bind (wpAny_attempt (ga_open (s := { s with toks := s.toks + 1 }) (fill := false) (expr := false) X I c.ga c.gn c.be (ga_body (s := { s with toks := s.toks + 1 }) X I hf ?_ (by intro z; cases z))))))
 show wpAny (model prog w) A.in1 (Builtin.ObjectAttr.bindTo (.builtin "getset_descriptor.__get__") (.builtin "object.__class__") (.ref x) (.ref D)) _ _ _
 unfold Builtin.ObjectAttr.bindTo
 refine wpAny_bind (wpAny_holding (wpAny_call (class_get (s := { s with toks := s.toks + 1 }) X I c.mr ?_)))
 exact wpAny_pure ⟨_, rfl, handed_on rfl (wpAny_pure h)⟩
theorem kitx_exc {K : Frag} {x D : Addr} {ox : Obj} {od : Option Obj} (c : XK1 K D) : KitX K (.ref x) (.ref D) (fun h => InstAt h x ox D od) :=
 {ty := fun _ _ _ I => InstAt.type I
  it := fun M h X _ => by
   obtain ⟨cd, hc, _⟩ := any_some c.hd
   unfold clsIn at hc
   split at hc
   ·rename_i oc dd cd' sl ho
    intro A' Q' E' s' k q
    exact wpAny_bind (wpAny_loadPart (k D _ (X D _ ho)) (wpAny_pure q))
   ·cases hc
  ne := fun h tp dd its n sl X htp => by
   obtain ⟨cd, hc, _⟩ := any_some c.hd
   unfold clsIn at hc
   split at hc
   ·rename_i oc dd' cd' sl' ho
    rw [Bool.eq_false_iff]
    intro q
    have e := Value.ref.inj (beq_iff_eq.mp q)
    subst e
    rw [X _ _ ho] at htp
    cases htp
   ·cases hc
  ca := fun X I q => kin_classO c X I q }
def rIsiE (K : Frag) : List V → Hp → VK → Prop := fun xs H Q => ∃ ea D dd cl cv b, xs = [.ref ea, cl] ∧ H ea = some (exo ea (.ref D) dd) ∧ (∀ d, dd = some d → ∃ fs, H d = some (xdo d fs)) ∧ XK1 K D ∧ clsV cl = some cv ∧ kitOne K (.ref D) cv = some b ∧ Q (.bl b) H
theorem call_isiE {X : Cx} : CallR X (.builtin "isinstance") (rIsiE X.K) := by
 intro pins s σ H xs us Q I r h
 obtain ⟨ea, D, dd, cl, cv, b, e, he, hd, c, hc, hk, q⟩ := h
 subst e
 cases r with
 | cons r1 r2 =>
  cases r2 with
  | cons r2 r3 =>
   cases r3
   cases clsV_rel hc r2
   cases r1
   obtain ⟨vs, sl, hx⟩ := exo_at I.hok he
   have J : ∃ od, InstAt s.heap ea ⟨.ref D, dd, .fields vs, sl⟩ D od := by
    cases dd with
    | none => exact ⟨none, hx, rfl, rfl, True.intro⟩
    | some d =>
     obtain ⟨fs, hd⟩ := hd d rfl
     obtain ⟨_, mA, ⟨o, es, ep, eo, _⟩, _⟩ := xdo_at I.hok hd
     exact ⟨some o, hx, rfl, rfl, eo⟩
   obtain ⟨od, J⟩ := J
   exact kia_one (kitx_exc c) I.kIn J hk (fun z => nomatch z) fun tk => ⟨.bl b, H, I.tok tk, rfl, q⟩
theorem isiE_K {X : Cx} (K : Frag) (h : X.K = K := by rfl) : CallR X (.builtin "isinstance") (rIsiE K) := by subst h; exact call_isiE
end L2
namespace L2
open PySem PySem.Spec PyProof.Rows
open Sem (wp)
section
variable {X : Cx}
end
end L2
namespace HT
open PySem PySem.Spec PyProof.Rows
open Sem (wp)
section
variable {prog : Program} {w : World} {A : Around} {E : Value → Shared → Prop} {s : Shared}
end
end HT
namespace L2
open PySem PySem.Spec PyProof.Rows
section
variable {X : Cx}
end
end L2
namespace L2
open PySem PySem.Spec PyProof.Rows PySem.SeqAt
mutual
def noDict : PyData → Bool
 | .dict _ => false
 | .list xs => noDictAll xs
 | .tuple xs => noDictAll xs
 | _ => true
def noDictAll : List PyData → Bool
 | [] => true
 | x :: xs => noDict x && noDictAll xs
end
mutual
theorem noMix_self : ∀ d : PyData, noDict d = true → noMix d d = true ∧ same d d = true
 | .none, _ => ⟨rfl, rfl⟩
 | .bool b, _ => ⟨rfl, by simp [same]⟩
 | .int i, _ => ⟨rfl, by simp [same]⟩
 | .str x, _ => ⟨rfl, by simp [same]⟩
 | .list xs, h => by
  rw [noMix, same]
  exact noMixAll_self xs (by rw [noDict] at h; exact h)
 | .tuple xs, h => by
  rw [noMix, same]
  exact noMixAll_self xs (by rw [noDict] at h; exact h)
 | .dict _, h => by rw [noDict] at h; cases h
theorem noMixAll_self : ∀ xs : List PyData, noDictAll xs = true → noMixAll xs xs = true ∧ sameAll xs xs = true
 | [], _ => ⟨by rw [noMixAll], by rw [sameAll]⟩
 | x :: xs, h => by
  rw [noDictAll, Bool.and_eq_true] at h
  obtain ⟨a, b⟩ := noMix_self x h.1
  obtain ⟨c, d⟩ := noMixAll_self xs h.2
  rw [noMixAll, sameAll, a, b, c, d]
  exact ⟨rfl, rfl⟩
end
mutual
theorem canLay_noDict : ∀ d : PyData, d.canLay0 = true → noDict d = true
 | .none, _ => rfl
 | .bool b, _ => rfl
 | .int i, _ => rfl
 | .str x, _ => rfl
 | .list xs, h => by rw [noDict]; exact canLayAll_noDict xs (by rw [PyData.canLay0] at h; exact h)
 | .tuple xs, h => by rw [noDict]; exact canLayAll_noDict xs (by rw [PyData.canLay0] at h; exact h)
 | .dict _, h => by rw [PyData.canLay0] at h; cases h
theorem canLayAll_noDict : ∀ xs : List PyData, PyData.canLayAll0 xs = true → noDictAll xs = true
 | [], _ => by rw [noDictAll]
 | x :: xs, h => by
  rw [PyData.canLayAll0, Bool.and_eq_true] at h
  rw [noDictAll, canLay_noDict x h.1, canLayAll_noDict xs h.2]
  rfl
end
theorem canLay_map {α : Type} {f : α → PyData} : ∀ {l : List α}, (∀ a ∈ l, (f a).canLay0 = true) → PyData.canLayAll0 (l.map f) = true
 | [], _ => by simp [PyData.canLayAll0]
 | a :: l, h => by
  rw [List.map_cons, PyData.canLayAll0, h a List.mem_cons_self, canLay_map fun b hb => h b (List.mem_cons_of_mem _ hb)]
  rfl
theorem depth_map {α : Type} {f : α → PyData} {k : Nat} : ∀ {l : List α}, (∀ a ∈ l, (f a).depth ≤ k) → PyData.depthAll (l.map f) ≤ k
 | [], _ => by simp [PyData.depthAll]
 | a :: l, h => by
  have h1 := h a List.mem_cons_self
  have h2 := depth_map fun b hb => h b (List.mem_cons_of_mem _ hb)
  simp only [List.map_cons, PyData.depthAll]
  omega
theorem shaped_map {α : Type} {f : α → PyData} {l : List α} (h1 : ∀ a ∈ l, (f a).canLay0 = true) (h2 : ∀ a ∈ l, (f a).depth ≤ 60) : shaped (.list (l.map f)) = true := by
 have d := depth_map h2
 unfold shaped
 rw [Bool.and_eq_true]
 refine ⟨by simp only [PyData.canLay0]; exact canLay_map h1, decide_eq_true ?_⟩
 simp only [PyData.depth]
 omega
theorem datVs_map {α : Type} {K : W.Frag} {H : Hp} {F : V → α → Prop} {f : α → PyData} (h : ∀ v a, F v a → DatV K H v (f a)) : ∀ {vs : List V} {l : List α}, Paired F vs l → DatVs K H vs (l.map f)
 | _, _, .nil => .nil
 | _, _, .cons g t => .cons (h _ _ g) (datVs_map h t)
end L2
namespace L2
open PySem PySem.Spec PyProof.Rows
section
variable {κ : Type} [DecidableEq κ]
def valV (kvs : List (κ × V)) (k : κ) : Option V := (kvs.find? fun kv => decide (kv.1 = k)).map (·.2)
def putK (kvs : List (κ × V)) (k : κ) (v : V) : List (κ × V) :=
 if (kvs.any fun kv => decide (kv.1 = k)) = true then kvs.map (fun kv => if kv.1 = k then (kv.1, v) else kv) else kvs ++ [(k, v)]
theorem valV_nil {k : κ} : valV ([] : List (κ × V)) k = none := rfl
theorem valV_pos {p : κ × V} {r : List (κ × V)} {k : κ} (e : p.1 = k) : valV (p :: r) k = some p.2 := by simp [valV, List.find?_cons, e]
theorem valV_neg {p : κ × V} {r : List (κ × V)} {k : κ} (e : ¬ p.1 = k) : valV (p :: r) k = valV r k := by simp [valV, List.find?_cons, e]
theorem valV_any (k : κ) : ∀ kvs : List (κ × V), (kvs.any fun kv => decide (kv.1 = k)) = (valV kvs k).isSome
 | [] => rfl
 | p :: r => by
  rw [List.any_cons]
  by_cases e : p.1 = k
  ·simp only [valV_pos e, decide_eq_true e, Bool.true_or, Option.isSome_some]
  ·rw [valV_neg e, decide_eq_false e, Bool.false_or]; exact valV_any k r
theorem valV_map (k j : κ) (y : V) : ∀ kvs : List (κ × V), valV (kvs.map fun kv => if kv.1 = k then (kv.1, y) else kv) j = (valV kvs j).map fun x => if j = k then y else x
 | [] => rfl
 | p :: r => by
  have ih := valV_map k j y r
  rw [List.map_cons]
  by_cases h : p.1 = k
  ·rw [if_pos h]
   by_cases e : p.1 = j
   ·rw [valV_pos (p := (p.1, y)) e, valV_pos e, Option.map_some, if_pos (e.symm.trans h)]
   ·rw [valV_neg (p := (p.1, y)) e, valV_neg e, ih]
  ·rw [if_neg h]
   by_cases e : p.1 = j
   ·rw [valV_pos (p := p) e, valV_pos e, Option.map_some, if_neg (fun z => h (e.trans z))]
   ·rw [valV_neg (p := p) e, valV_neg e, ih]
theorem valV_snoc (k j : κ) (y : V) : ∀ kvs : List (κ × V), valV kvs k = none → valV (kvs ++ [(k, y)]) j = if j = k then some y else valV kvs j
 | [], _ => by
  by_cases e : k = j
  ·rw [if_pos e.symm]; exact valV_pos (p := (k, y)) e
  ·rw [if_neg (fun z => e z.symm)]; exact valV_neg (p := (k, y)) e
 | p :: r, hn => by
  rw [List.cons_append]
  have hk : ¬ p.1 = k := fun z => by rw [valV_pos z] at hn; cases hn
  rw [valV_neg hk] at hn
  have ih := valV_snoc k j y r hn
  by_cases e : p.1 = j
  ·rw [valV_pos e, valV_pos e, if_neg (fun z => hk (e.trans z))]
  ·rw [valV_neg e, valV_neg e, ih]
theorem valV_put (kvs : List (κ × V)) (k j : κ) (y : V) : valV (putK kvs k y) j = if j = k then some y else valV kvs j := by
 unfold putK
 by_cases a : (kvs.any fun kv => decide (kv.1 = k)) = true
 ·rw [if_pos a, valV_map]
  rw [valV_any] at a
  by_cases e : j = k
  ·obtain ⟨x, hx⟩ := Option.isSome_iff_exists.mp a
   rw [if_pos e, e, hx, Option.map_some, if_pos rfl]
  ·rw [if_neg e]
   cases valV kvs j with
   | none => rfl
   | some x => rw [Option.map_some, if_neg e]
 ·rw [if_neg a]
  refine valV_snoc k j y kvs ?_
  rw [valV_any] at a
  cases q : valV kvs k with
  | none => rfl
  | some x => rw [q] at a; exact (a rfl).elim
theorem length_putK (kvs : List (κ × V)) (k : κ) (v : V) : (putK kvs k v).length ≤ kvs.length + 1 := by
 unfold putK
 split
 ·rw [List.length_map]; omega
 ·rw [List.length_append, List.length_cons, List.length_nil]; omega
theorem putK_new {kvs : List (κ × V)} {k : κ} (v : V) (h : valV kvs k = none) : putK kvs k v = kvs ++ [(k, v)] := by
 unfold putK
 rw [valV_any, h]
 exact if_neg (by decide)
theorem RelO.isSome_eq {o : Option V} {u : Option Value} (r : RelO o u) : o.isSome = u.isSome := by
 cases o with
 | none => cases u with
  | none => rfl
  | some _ => exact (show False from r).elim
 | some _ => cases u with
  | none => exact (show False from r).elim
  | some _ => rfl
theorem KV.val {kvs : List (κ × V)} {vs : List (κ × Value)} (r : KV kvs vs) (k : κ) : RelO (valV kvs k) (valueAt vs k) := by
 unfold KV at r
 induction r with
 | nil => exact True.intro
 | @cons p q ps qs h t ih =>
  obtain ⟨h1, h2⟩ := h
  by_cases e : p.1 = k
  ·have e' : q.1 = k := h1.symm.trans e
   have b : valueAt (q :: qs) k = some q.2 := by simp [valueAt, List.find?_cons, e']
   rw [valV_pos e, b]; exact h2
  ·have e' : ¬ q.1 = k := fun z => e (h1.trans z)
   have b : valueAt (q :: qs) k = valueAt qs k := by simp [valueAt, List.find?_cons, e']
   rw [valV_neg e, b]; exact ih
theorem KV.any {kvs : List (κ × V)} {vs : List (κ × Value)} (r : KV kvs vs) (k : κ) : (kvs.any fun kv => decide (kv.1 = k)) = vs.any fun kv => decide (kv.1 = k) := by
 unfold KV at r
 induction r with
 | nil => rfl
 | cons h t ih => rw [List.any_cons, List.any_cons, ih, h.1]
theorem KV.repl {kvs : List (κ × V)} {vs : List (κ × Value)} (r : KV kvs vs) (k : κ) {y : V} {u : Value} (ry : RelV y u) :
  KV (kvs.map fun kv => if kv.1 = k then (kv.1, y) else kv) (vs.map fun kv => if kv.1 = k then (kv.1, u) else kv) := by
 unfold KV at r ⊢
 induction r with
 | nil => exact .nil
 | @cons p q ps qs h t ih =>
  rw [List.map_cons, List.map_cons]
  refine .cons ?_ ih
  obtain ⟨h1, h2⟩ := h
  by_cases e : p.1 = k
  ·rw [if_pos e, if_pos (h1.symm.trans e)]; exact ⟨h1, ry⟩
  ·rw [if_neg e, if_neg (fun z => e (h1.trans z))]; exact ⟨h1, h2⟩
theorem KV.put {kvs : List (κ × V)} {vs : List (κ × Value)} (r : KV kvs vs) (k : κ) {y : V} {u : Value} (ry : RelV y u) : KV (putK kvs k y) (stored vs k u) := by
 unfold putK stored
 rw [r.any k]
 by_cases e : (vs.any fun kv => decide (kv.1 = k)) = true
 ·rw [if_pos e, if_pos e]; exact r.repl k ry
 ·rw [if_neg e, if_neg e]; exact Paired.snoc r ⟨rfl, ry⟩
theorem KV.length {kvs : List (κ × V)} {vs : List (κ × Value)} (r : KV kvs vs) : kvs.length = vs.length := Paired.length r
end
theorem kV_is {P : Program} {w : World} {k : Key} {u : Value} (r : RelV (kV k) u) : (mixKind P w).is k u = true := by
 cases k with
 | inl i => obtain ⟨t, e⟩ := (show ∃ t, u = Value.int i t from r); subst e; exact mixKind_int P w i t
 | inr x => obtain ⟨t, e⟩ := (show ∃ t, u = Value.str x t from r); subst e; exact mixKind_str P w x t
theorem items_are {P : Program} {w : World} : ∀ {ks : List Key} {us : List Value}, Vals (ks.map kV) us → ItemsAre (mixKind P w) ks us
 | [], _, r => by rw [List.map_nil] at r; cases r; exact .nil
 | k :: ks, _, r => by
  rw [List.map_cons] at r
  cases r with
  | cons h t => exact .cons (kV_is h) (items_are t)
abbrev KT (H : Hp) : List (List Key × V) → List (List Key × Addr × Value) → Prop := Paired fun p q => p.1 = q.1 ∧ H q.2.1 = some (.tup (p.1.map kV)) ∧ RelV p.2 q.2.2
theorem KT.val {H : Hp} {kvs : List (List Key × V)} {xs : List (List Key × Addr × Value)} (r : KT H kvs xs) (k : List Key) : RelO (valV kvs k) ((atKey xs k).map (·.2)) := by
 induction r with
 | nil => exact True.intro
 | @cons p q ps qs h t ih =>
  obtain ⟨h1, _, h2⟩ := h
  by_cases e : p.1 = k
  ·have e' : q.1 = k := h1.symm.trans e
   have b : atKey (q :: qs) k = some q.2 := by simp [atKey, List.find?_cons, e']
   rw [valV_pos e, b]; exact h2
  ·have e' : ¬ q.1 = k := fun z => e (h1.trans z)
   have b : atKey (q :: qs) k = atKey qs k := by simp [atKey, List.find?_cons, e']
   rw [valV_neg e, b]; exact ih
section
variable {P : Program} {w : World} {H : Hp} {h : Heap} {a : Addr}
theorem rd_of {u : HO} (ok : HOk P w H h) (e : Rd H a u) : ObjOk P w H h a u := e.ok ok
theorem dk_rd {kvs : List (Key × V)} (ok : HOk P w H h) (e : Rd H a (.dK kvs)) : kvs.length ≤ sizeLine ∧ (a == sysModules) = false ∧ ∃ vs, KV kvs vs ∧ h.DictOf (mixKind P w) a vs :=
 show ObjOk P w H h a (.dK kvs) from rd_of ok e
theorem dk_of {kvs : List (Key × V)} (ok : HOk P w H h) (e : H a = some (.dK kvs)) : kvs.length ≤ sizeLine ∧ (a == sysModules) = false ∧ ∃ vs, KV kvs vs ∧ h.DictOf (mixKind P w) a vs := dk_rd ok (.inl e)
theorem key_of {ks : List Key} (ok : HOk P w H h) (e : H a = some (.tup (ks.map kV))) : (tupleKind (mixKind P w)).is h ks a := by
 obtain ⟨_, its, r, o, h1, h2, n, h3⟩ := (show ObjOk P w H h a (.tup (ks.map kV)) from ok a _ e)
 exact ⟨o, its.toArray, n, h1, h2, h3, by simpa using items_are r⟩
theorem dt_rd {kvs : List (List Key × V)} (ok : HOk P w H h) (e : Rd H a (.dT kvs)) : kvs.length ≤ sizeLine ∧ (a == sysModules) = false ∧
  ∃ xs, KT H kvs xs ∧ h.DictOfH (tupleKind (mixKind P w)) a xs := by
 obtain ⟨z, y, xs, r, o, es, ep, h1, h2, h3, h4, h5⟩ := (show ObjOk P w H h a (.dT kvs) from rd_of ok e)
 refine ⟨z, y, xs, r, o, es, ep, h1, h2, h3, h4, fun x hx => ?_, h5⟩
 have all : ∀ {l : List (List Key × V)} {m : List (List Key × Addr × Value)}, KT H l m → ∀ x ∈ m, (tupleKind (mixKind P w)).is h x.1 x.2.1 := by
  intro l m q
  induction q with
  | nil => intro x hx; exact nomatch hx
  | @cons p q ps qs hq t ih =>
   intro x hx
   rcases List.mem_cons.mp hx with e | hx
   ·subst e
    exact key_of ok (by rw [← hq.1]; exact hq.2.1)
   ·exact ih x hx
 exact all r x hx
end
def DGet (H : Hp) (a : Addr) (y : V) (r : Option V) : Prop :=
 (∃ kvs k, Rd H a (.dK kvs) ∧ y = kV k ∧ r = valV kvs k) ∨ ∃ kvs k b, Rd H a (.dT kvs) ∧ y = .ref b ∧ H b = some (.tup (k.map kV)) ∧ r = valV kvs k
theorem DGet.k {H : Hp} {a : Addr} {kvs : List (Key × V)} {k : Key} (e : H a = some (.dK kvs)) : DGet H a (kV k) (valV kvs k) := .inl ⟨kvs, k, .inl e, rfl, rfl⟩
section
variable {X : Cx} {pins : List (Addr × Obj)} {σ : St} {H : Hp} {s : Shared} {a : Addr} {y v : V} {u r : Value} {o : Option V} {A : Around} {E : Value → Shared → Prop}
theorem Inv.big (I : Inv X pins σ H s) : sysModules < s.heap.objs.size := by
 have h : mainGlobals < s.heap.objs.size := (I.mod.glob.keeps I.bk).lt
 exact Nat.lt_trans (by decide) h
theorem d_getItem {Q : Value → Shared → Prop} (hu : A.units + 1 < cLine) (I : Inv X pins σ H s) (g : DGet H a y (some v)) (ry : RelV y u) (h : ∀ w' s', Inv X pins σ H s' → RelV v w' → Q w' s') :
  wpAny (model X.prog X.w) A (getItem (.ref a) u) Q E s := by
 rcases g with ⟨kvs, k, e, ey, l⟩ | ⟨kvs, k, b, e, ey, eb, l⟩
 ·subst ey
  obtain ⟨z, hd, vs, rel, dd⟩ := dk_rd I.hok e
  obtain ⟨w', hw, rw'⟩ := RelO.some_of (v := v) (o := valueAt vs k) (by rw [l]; exact rel.val k)
  exact wpAny_getItem_of (kV_is ry) dd.mapOf hw (h w' _ (I.tok _) rw')
 ·subst ey
  cases (show u = Value.ref b from ry)
  obtain ⟨z, hd, xs, rel, dd⟩ := dt_rd I.hok e
  obtain ⟨w', hw, rw'⟩ := RelO.some_of (v := v) (o := (atKey xs k).map (·.2)) (by rw [l]; exact rel.val k)
  obtain ⟨p, hp, hp2⟩ := Option.map_eq_some_iff.mp hw
  refine wpAny_getItem_heap (tupleKind_room_in1 hu) (key_of I.hok eb) dd hp ?_
  rw [hp2]
  exact h w' _ (I.tok _) rw'
theorem d_notIn {Q : Value → Shared → Prop} (hu : A.units + 1 < cLine) (I : Inv X pins σ H s) (g : DGet H a y o) (ry : RelV y u) (h : ∀ s', Inv X pins σ H s' → Q (.bool (!o.isSome)) s') :
  wpAny (model X.prog X.w) A (compareOp .NotIn u (.ref a)) Q E s := by
 rcases g with ⟨kvs, k, e, ey, l⟩ | ⟨kvs, k, b, e, ey, eb, l⟩
 ·subst ey
  obtain ⟨z, hd, vs, rel, dd⟩ := dk_rd I.hok e
  refine wpAny_notIn_of (kV_is ry) hd dd.mapOf ?_
  rw [← (rel.val k).isSome_eq, ← l]
  exact h _ (I.tok _)
 ·subst ey
  cases (show u = Value.ref b from ry)
  obtain ⟨z, hd, xs, rel, dd⟩ := dt_rd I.hok e
  refine wpAny_notIn_heap (tupleKind_room_in1 hu) (key_of I.hok eb) hd dd ?_
  have q := (rel.val k).isSome_eq
  rw [Option.isSome_map] at q
  rw [← q, ← l]
  exact h _ (I.tok _)
theorem d_write {h' : Heap} {t' : Nat} {ob : HO} (I : Inv X pins σ H s) (mu : Mut (H a)) (hs : Heap.SameBut a s.heap h') (he : ∃ q, h'.get? a = some q) (new : ObjOk X.prog X.w (upd H a ob) h' a ob) :
  Inv X pins σ (upd H a ob) { s with heap := h', toks := t' } :=
 I.write (x := a) (e := a) mu (.inl rfl) (fun b q hb z => (hs.2 b hb).trans z) he new
theorem dk_new {P : Program} {w : World} {H' : Hp} {h' : Heap} {kvs : List (Key × V)} {vs : List (Key × Value)} (z : kvs.length ≤ sizeLine) (hd : (a == sysModules) = false) (rel : KV kvs vs) (dd : h'.DictOf (mixKind P w) a vs) :
  ObjOk P w H' h' a (.dK kvs) := ⟨z, hd, vs, rel, dd⟩
end
section
variable {X : Cx} {pins : List (Addr × Obj)} {σ : St} {H : Hp} {s : Shared} {a : Addr} {kvs : List (Key × V)} {k : Key} {u : Value} {A : Around} {E : Value → Shared → Prop}
end
def NoSl (i : Expr) : Prop := ∀ ov iv, subscripted i false ov iv = operate [ov, iv] (getItem ov iv)
theorem subD_of {prog : Program} {w : World} {A : Around} {E : Value → Shared → Prop} {s : Shared} {env : Env} {value slice : Expr} {pos : Pos} {T id : String} {Q : Value → Shared → Prop}
  (hl : typeLookup (.type T) "__getitem__" = pure (some (.builtin id))) (hs : NoSl slice)
  (h : wpAny (model prog w) A (eval value env) (fun o s₁ => wpAny (model prog w) A (eval slice env) (fun i s₂ => s₂.TypeIs o T ∧ wpAny (model prog w) A (getItem o i) Q E s₂) E s₁) E s) :
  wpAny (model prog w) A (eval (.Subscript value slice pos) env) Q E s := by
 refine Subscript_ (wpAny_mono h (fun o s₁ h₁ => wpAny_mono h₁ (fun i s₂ h₂ => ?_) fun _ _ x => x) fun _ _ x => x)
 obtain ⟨hT, h₂⟩ := h₂
 unfold subscriptTail
 refine wpAny_bind ?_
 rw [getitemInPython_of_ne hT.not_modules]
 refine wpAny_bind (wpAny_specialOf hT hl ?_)
 have fin : wpAny (model prog w) A (subscripted slice false o i) (fun r s₃ => wpAny (model prog w) A (letTemporaryGo value o r >>= fun _ => pure r) Q E s₃) E s₂ := by
  rw [hs o i]
  exact wpAny_operating (wpAny_mono h₂ (fun r s₃ h₃ => wpAny_bind (wpAny_letTemporaryGo (wpAny_pure h₃))) fun _ _ x => x)
 first
  | exact wpAny_pure (wpAny_bind fin)
  | exact wpAny_bind (wpAny_pure (wpAny_bind fin))
  | exact wpAny_bind fin
theorem dict_typeIs {X : Cx} {pins : List (Addr × Obj)} {σ : St} {H : Hp} {s : Shared} {a : Addr} {y : V} {o : Option V} (I : Inv X pins σ H s) (g : DGet H a y o) : s.TypeIs (.ref a) "dict" := by
 rcases g with ⟨kvs, k, e, _, _⟩ | ⟨kvs, k, b, e, _, _, _⟩
 ·obtain ⟨_, _, vs, _, dd⟩ := dk_rd I.hok e
  exact dd.typeIs
 ·obtain ⟨_, _, xs, _, dd⟩ := dt_rd I.hok e
  exact dd.typeIs
def tDGet (td ty : TE) : TE := fun σ H Q => td σ H fun x H1 => ty σ H1 fun y H2 => ∃ a v, x = .ref a ∧ DGet H2 a y (some v) ∧ Q v H2
def tDNotIn (ty td : TE) : TE := fun σ H Q => ty σ H fun y H1 => td σ H1 fun x H2 => ∃ a o, x = .ref a ∧ DGet H2 a y o ∧ Q (.bl (!o.isSome)) H2
section
variable {X : Cx} {o i e value : Expr} {pos pos' tpos : Pos} {td ty tv : TE}
theorem pe_dget (hu : X.A.units + 1 < cLine) (ho : PE X o td) (hi : PE X i ty) (hs : NoSl i) : PE X (.Subscript o i pos) (tDGet td ty) := by
 intro pins s σ H Q I h
 refine subD_of PySem.F.slot_dict_getitem.lookup hs (thn (ho pins s σ H _ I h) fun u s1 ⟨x, H1, I1, rx, q1⟩ => thn (hi pins s1 σ H1 _ I1 q1) fun iv s2 ⟨y, H2, I2, ry, a, v, ex, g, q2⟩ => ?_)
 subst ex
 obtain rfl : u = Value.ref a := rx
 exact ⟨dict_typeIs I2 g, d_getItem hu I2 g ry fun w' s3 I3 rw' => ⟨v, H2, I3, rw', q2⟩⟩
theorem pc_dnotin (hu : X.A.units + 1 < cLine) (hi : PE X i ty) (ho : PE X o td) : PC X .NotIn i o (tDNotIn ty td) := by
 intro pins s σ H Q I h
 refine thn (hi pins s σ H _ I h) fun iv s1 ⟨y, H1, I1, ry, q1⟩ => thn (ho pins s1 σ H1 _ I1 q1) fun u s2 ⟨x, H2, I2, rx, a, ov, ex, g, q2⟩ => ?_
 subst ex
 obtain rfl : u = Value.ref a := rx
 exact d_notIn hu I2 g ry fun s3 I3 => ⟨.bl (!ov.isSome), H2, I3, rfl, q2⟩
end
theorem dk_empty {P : Program} {w : World} {H : Hp} (h : Heap) (hb : sysModules < h.objs.size) : ObjOk P w H (h.push { cls := .type "dict", data := .dict #[] }) h.objs.size (.dK []) :=
 ⟨Nat.zero_le _, beq_eq_false_iff_ne.mpr (Ne.symm (Nat.ne_of_lt hb)), [], .nil, Heap.DictOf.new h⟩
section
variable {X : Cx} {pos : Pos}
end
def tPairs : List (TE × TE) → St → Hp → (List (V × V) → Hp → Prop) → Prop
 | [], _, H, Q => Q [] H
 | (tk, tv) :: r, σ, H, Q => tk σ H fun x H1 => tv σ H1 fun y H2 => tPairs r σ H2 fun ps H3 => Q ((x, y) :: ps) H3
abbrev VV : List (V × V) → List (Value × Value) → Prop := Paired fun p q => RelV p.1 q.1 ∧ RelV p.2 q.2
def PPs (X : Cx) (pos : Pos) (keys : List (Option Expr)) (values : List Expr) (trs : List (TE × TE)) : Prop :=
 ∀ (pins : List (Addr × Obj)) (s : Shared) (σ : St) (H : Hp) (Q : List (V × V) → Hp → Prop), Inv X pins σ H s → tPairs trs σ H Q →
  wpAny (model X.prog X.w) X.A (evalPairs (pairTrees keys values X.env pos)) (fun vs s' => ∃ ps H', Inv X pins σ H' s' ∧ VV ps vs ∧ Q ps H') X.xe s
theorem pps_nil {X : Cx} {pos : Pos} : PPs X pos [] [] [] := fun pins s σ H Q I h => pairTrees_nil_walk ⟨[], H, I, .nil, h⟩
theorem pps_cons {X : Cx} {pos : Pos} {k v : Expr} {ks : List (Option Expr)} {vs : List Expr} {tk tv : TE} {trs : List (TE × TE)} (hk : PE X k tk) (hv : PE X v tv) (hr : PPs X pos ks vs trs) :
  PPs X pos (some k :: ks) (v :: vs) ((tk, tv) :: trs) := fun pins s σ H Q I h =>
 pairTrees_cons_walk (thn (hk pins s σ H _ I h) fun u s1 ⟨x, H1, I1, rx, q1⟩ => thn (hv pins s1 σ H1 _ I1 q1) fun w2 s2 ⟨y, H2, I2, ry, q2⟩ =>
  thn (hr pins s2 σ H2 _ I2 q2) fun ws s3 ⟨ps, H3, I3, rel, q3⟩ => ⟨(x, y) :: ps, H3, I3, .cons ⟨rx, ry⟩ rel, q3⟩)
def mergeK (kvs more : List (Key × V)) : List (Key × V) := more.foldl (fun acc kv => putK acc kv.1 kv.2) kvs
theorem KV.merge : ∀ {more : List (Key × V)} {rs : List (Key × Value)} {kvs : List (Key × V)} {vs : List (Key × Value)}, KV more rs → KV kvs vs → KV (mergeK kvs more) (merged vs rs) := by
 intro more rs kvs vs r
 unfold KV at r
 induction r generalizing kvs vs with
 | nil => intro q; exact q
 | @cons p q ps qs h t ih =>
  intro r0
  have e : KV (putK kvs p.1 p.2) (stored vs q.1 q.2) := by
   have := r0.put p.1 h.2
   rw [← h.1]; exact this
  exact ih e
theorem length_mergeK : ∀ (more kvs : List (Key × V)), (mergeK kvs more).length ≤ kvs.length + more.length
 | [], kvs => by show kvs.length ≤ kvs.length + 0; omega
 | p :: r, kvs => by
  have h1 := length_mergeK r (putK kvs p.1 p.2)
  have h2 := length_putK kvs p.1 p.2
  show (mergeK (putK kvs p.1 p.2) r).length ≤ _
  rw [List.length_cons]; omega
theorem carries_of {P : Program} {w : World} : ∀ {kvs : List (Key × V)} {ws : List (Value × Value)}, VV (kvs.map fun kv => (kV kv.1, kv.2)) ws → ∃ rs, Carries (mixKind P w) ws rs ∧ KV kvs rs
 | [], _, r => by rw [List.map_nil] at r; cases r; exact ⟨[], True.intro, .nil⟩
 | p :: kvs, _, r => by
  rw [List.map_cons] at r
  cases r with
  | @cons a b as bs h t =>
   obtain ⟨rs, c, q⟩ := carries_of (P := P) (w := w) t
   obtain ⟨b1, b2⟩ := b
   exact ⟨(p.1, b2) :: rs, ⟨kV_is h.1, rfl, c⟩, .cons ⟨rfl, h.2⟩ q⟩
def tDisp (trs : List (TE × TE)) : TE := fun σ H Q => ∀ p, H p = none → tPairs trs σ (upd H p (.dK [])) fun ps H2 => H2 p = some (.dK []) ∧ ∃ kvs : List (Key × V), ps = kvs.map (fun kv => (kV kv.1, kv.2)) ∧ kvs.length ≤ 15 ∧ Q (.ref p) (upd H2 p (.dK (mergeK [] kvs)))
theorem pe_disp {X : Cx} {pos : Pos} {keys : List (Option Expr)} {values : List Expr} {trs : List (TE × TE)} (h : PPs X pos keys values trs) (hall : keys.all (·.isSome) = true) (hl : keys.length = values.length) (h0 : keys ≠ [])
  (h15 : keys.length ≤ 15) : PE X (.Dict keys values pos) (tDisp trs) := by
 intro pins s σ H Q I q
 have hn := I.hok.fresh (Nat.le_refl s.heap.objs.size)
 have I1 := I.laid (a := s.heap.objs.size) (o := .dK []) (h' := s.heap.push { cls := .type "dict", data := .dict #[] }) (t' := s.toks) (fun _ _ q => Heap.get?_push_of_some _ q) (Nat.le_refl _) (dk_empty s.heap I.big)
 refine wpAny_Dict_walk (knd := mixKind X.prog X.w) hall hl h0 h15 (thn (h pins _ σ _ _ I1 (q _ hn)) fun ws s2 ⟨ps, H2, I2, rel, e, kvs, ep, lk, q2⟩ => ?_)
 subst ep
 obtain ⟨rs, c, rk⟩ := carries_of (P := X.prog) (w := X.w) rel
 obtain ⟨z, hd, vs0, r0, dd⟩ := dk_of I2.hok e
 cases r0
 refine ⟨rs, c, dd, fun h' dd' hs => ⟨.ref s.heap.objs.size, _, ?_, rfl, q2⟩⟩
 have hz : (mergeK [] kvs).length ≤ sizeLine := by
  have h1 := length_mergeK kvs []
  rw [List.length_nil] at h1
  rw [sizeLine_eq]; omega
 have he : ∃ q, h'.get? s.heap.objs.size = some q := let ⟨q, _, _, hq, _⟩ := dd'; ⟨q, hq⟩
 exact d_write I2 (by rw [e]; exact True.intro) hs he (dk_new hz hd (rk.merge .nil) dd')
structure M1 (X : Cx) (o : Expr) (m : Str) (apos : Pos) (e : Expr) (cpos : Pos) : Prop where
 base : attributeBase o m X.env (eval o X.env) = eval o X.env
 few : ((backTo cpos (starEach [e] X.env)).all (fun x => !x.1) && (backToKw cpos (keywordEach [] X.env)).all (fun x => x.1.isSome)
  && decide (([e] : List Expr).length + ([] : List Keyword).length + (if ([] : List Keyword).isEmpty then 0 else 1) < 30)) = true
 line : (apos.endLine == cpos.line) = true
 trees : backTo cpos (starEach [e] X.env) = [(false, eval e X.env)]
structure M2 (X : Cx) (o : Expr) (m : Str) (apos : Pos) (e f : Expr) (cpos : Pos) : Prop where
 base : attributeBase o m X.env (eval o X.env) = eval o X.env
 few : ((backTo cpos (starEach [e, f] X.env)).all (fun x => !x.1) && (backToKw cpos (keywordEach [] X.env)).all (fun x => x.1.isSome)
  && decide (([e, f] : List Expr).length + ([] : List Keyword).length + (if ([] : List Keyword).isEmpty then 0 else 1) < 30)) = true
 line : (apos.endLine == cpos.line) = true
 trees : backTo cpos (starEach [e, f] X.env) = [(false, eval e X.env), (false, eval f X.env)]
def IsD (H : Hp) (a : Addr) : Prop := (∃ kvs, Rd H a (.dK kvs)) ∨ ∃ kvs, Rd H a (.dT kvs)
theorem isD_at {X : Cx} {pins : List (Addr × Obj)} {σ : St} {H : Hp} {s : Shared} {a : Addr} (I : Inv X pins σ H s) (d : IsD H a) :
  s.TypeIs (.ref a) "dict" ∧ (∀ b, Value.ref a = .ref b → ∃ ob, s.heap.get? b = some ob ∧ ob.dict = none) ∧ (a == sysModules) = false := by
 rcases d with ⟨kvs, e⟩ | ⟨kvs, e⟩
 ·obtain ⟨_, hd, vs, _, dd⟩ := dk_rd I.hok e
  refine ⟨dd.typeIs, fun b q => ?_, hd⟩
  cases q
  obtain ⟨ob, _, _, h1, h2, _⟩ := dd
  exact ⟨ob, h1, h2.2.1⟩
 ·obtain ⟨_, hd, xs, _, dd⟩ := dt_rd I.hok e
  refine ⟨dd.typeIs, fun b q => ?_, hd⟩
  cases q
  obtain ⟨ob, _, _, h1, h2, _⟩ := dd
  exact ⟨ob, h1, h2.2.1⟩
section
variable {X : Cx} {pins : List (Addr × Obj)} {σ : St} {H : Hp} {s : Shared} {a : Addr} {y d : V} {u r : Value} {o : Option V} {A : Around} {E : Value → Shared → Prop}
end
section
variable {X : Cx} {o e f : Expr} {apos cpos : Pos} {td ty tx : TE}
end
section
variable {X : Cx} {pins : List (Addr × Obj)} {σ : St} {H : Hp} {s : Shared} {a : Addr} {kvs : List (Key × V)} {A : Around} {E : Value → Shared → Prop}
end
section
variable {X : Cx} {pins : List (Addr × Obj)} {σ : St} {H : Hp} {s : Shared} {a : Addr} {y : V} {u : Value} {A : Around} {E : Value → Shared → Prop}
end
end L2
namespace L2
open PySem PySem.Spec PyProof.Rows
section
variable {X : Cx} {pins : List (Addr × Obj)} {σ : St} {H : Hp} {s : Shared} {a b : Addr} {A : Around} {E : Value → Shared → Prop}
theorem d_update {Q : Value → Shared → Prop} {kvs more : List (Key × V)} (I : Inv X pins σ H s) (hab : a ≠ b) (ha : H a = some (.dK kvs)) (hb : H b = some (.dK more)) (hz : kvs.length + more.length ≤ sizeLine)
  (h : ∀ s', Inv X pins σ (upd H a (.dK (mergeK kvs more))) s' → Q .none s') : wpAny (model X.prog X.w) A (call (.builtin "dict.update") [.ref a, .ref b]) Q E s := by
 obtain ⟨za, da, vs, rel, dd⟩ := dk_of I.hok ha
 obtain ⟨zb, db, ws, rel2, dd2⟩ := dk_of I.hok hb
 refine call_meetsIn PySem.F.slot_dict_update dd.typeIs PySem.F.entry_dict_update (PySem.F.args_dict_update_2 _ _) (meets_dict_update (mixKind X.prog X.w) a b hab db) ⟨vs, ws, dd, dd2, by rw [← rel.length, ← rel2.length]; exact hz, fun h' d1 d2 hs => h _ ?_⟩
 have he : ∃ q, h'.get? a = some q := let ⟨q, _, _, hq, _⟩ := d1; ⟨q, hq⟩
 exact d_write I (by rw [ha]; exact True.intro) hs he (dk_new (Nat.le_trans (length_mergeK more kvs) hz) da (rel2.merge rel) d1)
end
def tDUpd (td ty : TE) : TE := fun σ H Q => td σ H fun x H1 => ∃ a, x = .ref a ∧ IsD H1 a ∧ ty σ H1 fun y H2 => ∃ b kvs more, y = .ref b ∧ a ≠ b ∧ H2 a = some (.dK kvs) ∧ H2 b = some (.dK more) ∧ kvs.length + more.length ≤ sizeLine ∧
 Q .non (upd H2 a (.dK (mergeK kvs more)))
section
variable {X : Cx} {o e : Expr} {td ty : TE} {apos cpos : Pos}
theorem pe_dupd (ho : PE X o td) (he : PE X e ty) (m : M1 X o "update" apos e cpos) : PE X (.Call (.Attribute o "update" apos) [e] [] cpos) (tDUpd td ty) := by
 intro pins s σ H Q I h
 refine wpAny_Call_method m.base m.few m.line PySem.F.plainAttrs_dict PySem.F.slot_dict_update PySem.F.type_dict_update (thn (ho pins s σ H _ I h) fun u s1 ⟨x, H1, I1, rx, a, ex, d, q1⟩ => ?_)
 subst ex
 obtain rfl : u = Value.ref a := rx
 obtain ⟨t1, t2, _⟩ := isD_at I1 d
 refine ⟨t1, t2, ?_⟩
 rw [m.trees]
 refine Calls.callWith_builtin rfl (Calls.evalArgs_plain (Calls.spliced_cons (thn (he pins s1 σ H1 _ I1 q1) fun iv s2 ⟨y, H2, I2, ry, b, kvs, more, ey, hab, ha, hb, hz, q2⟩ => Calls.spliced_nil ?_)))
 subst ey
 obtain rfl : iv = Value.ref b := ry
 exact d_update I2 hab ha hb hz fun s3 I3 => ⟨.non, _, I3, rfl, q2⟩
end
end L2
namespace L2
open PySem PySem.Spec PyProof.Rows
theorem for_of {J : It} {n : Nat} {g : TG} {tb : TS} {D : Ends} {σ : St} {H : Hp} (Pv : Nat → St → Hp → Prop) (h0 : Pv 0 σ H) (hgo : ∀ i σ H, i < n → Pv i σ H → J.go i H) (hst : ∀ σ H, Pv n σ H → J.stop n H)
  (hs : ∀ i σ H, i < n → Pv i σ H → ∀ x H', J.yld i H x H' → g x σ H' fun σ2 H2 => tb { D with nx := Pv (i + 1), ct := Pv (i + 1), bk := D.nx } σ2 H2) (hd : ∀ σ H, Pv n σ H → D.nx σ H) :
  ∃ W : Nat → Nat → St → Hp → Prop, (∃ m, W 0 m σ H) ∧ ∀ i m σ H, W i m σ H →
   (J.stop i H ∧ D.nx σ H) ∨ (J.go i H ∧ ∃ N : St → Hp → Prop, (∀ σ' H', N σ' H' → ∃ m', m' < m ∧ W (i + 1) m' σ' H') ∧ ∀ x H', J.yld i H x H' → g x σ H' fun σ2 H2 => tb { D with nx := N, ct := N, bk := D.nx } σ2 H2) := by
 refine ⟨fun i m σ H => m = n - i ∧ i ≤ n ∧ Pv i σ H, ⟨n, by simp, Nat.zero_le _, h0⟩, ?_⟩
 rintro i m σ H ⟨rfl, hi, p⟩
 by_cases hlt : i < n
 ·exact .inr ⟨hgo i σ H hlt p, Pv (i + 1), fun σ' H' p' => ⟨n - (i + 1), by omega, rfl, hlt, p'⟩, hs i σ H hlt p⟩
 ·have e : i = n := by omega
  subst e
  exact .inl ⟨hst σ H p, hd σ H p⟩
end L2
namespace TL
open PySem PySem.Spec PyProof.Rows PySem.SeqAt L2 L3
structure XFacts (K : PySem.W.Frag) (c cE : Addr) : Prop where
 xc : XC K c
 self : PySem.W.kitCls K (.ref c) (.ref c) = some true
 base : PySem.W.kitCls K (.ref c) (.type "BaseException") = some true
 te : PySem.W.kitOne K (.ref c) (.ref cE) = some true
 ve : PySem.W.kitOne K (.ref c) (.type "ValueError") = some true
def flatTy : V → Bool
 | .non => true
 | .bl _ => true
 | .int _ => true
 | .str x => PyData.strOk x
 | _ => false
theorem flat_ty {H : Hp} {v : V} (h : flatTy v = true) : (∃ T, tyName H v = some T) ∧ viewT H v = none := by
 cases v with
 | non => exact ⟨⟨_, rfl⟩, rfl⟩
 | bl b => exact ⟨⟨_, rfl⟩, rfl⟩
 | int i => exact ⟨⟨_, rfl⟩, rfl⟩
 | str x => exact ⟨⟨_, rfl⟩, rfl⟩
 | _ => cases h
def Told (H : Hp) (v : V) : Prop := (∃ T, tyName H v = some T) ∧ ∀ xs, viewT H v = some xs → xs.length ≤ 1000 ∧ ∀ x ∈ xs, flatTy x = true
theorem view_same {H H' : Hp} {v : V} {T : String} (s : Same H H') (h : tyName H v = some T) : viewT H' v = viewT H v := by
 cases v with
 | ref a =>
  unfold tyName at h
  unfold viewT
  cases e : H a with
  | none => simp only [e] at h; cases h
  | some o => simp only [s a o e, e]
 | _ => rfl
theorem Told.same {H H' : Hp} {v : V} (s : Same H H') (h : Told H v) : Told H' v := by
 obtain ⟨⟨T, hT⟩, hx⟩ := h
 refine ⟨⟨T, tyName_same s hT⟩, fun xs e => ?_⟩
 rw [view_same s hT] at e
 exact hx xs e
def skipFar (H : Hp) (v : V) (n : Int) : Bool := match viewT H v with
 | some [.str x, _, .int q] => decide (x = "skip") && decide (n < q)
 | _ => false
def fitsM (H : Hp) (v : V) (p n : Int) : Bool := isStep H v && (!skipFar H v n && decide (p < 120))
theorem fits_same {H H' : Hp} {v : V} {p n : Int} (s : Same H H') (h : Told H v) : fitsM H' v p n = fitsM H v p n := by
 obtain ⟨⟨T, hT⟩, _⟩ := h
 unfold fitsM isStep skipFar
 rw [view_same s hT]
structure CK (K : PySem.W.Frag) (c cS : Addr) (b : Bool) : Prop where
 cl : PySem.W.findIn K (.ref c) "__class__" = some (some (.builtin "object.__class__"))
 mr : PySem.W.mroIn K c (.type "object") = some true
 one : PySem.W.kitOne K (.ref c) (.ref cS) = some b
structure IsSk (K : PySem.W.Frag) (t : Adr) : Prop where
 gt : PySem.W.specialIn K (.builtin "object.__class__") "__get__" = some (some (.builtin "getset_descriptor.__get__"))
 tk : PySem.W.takesIn K (.builtin "object.__class__") = some true
 put : CK K t.cPut t.cSkip false
 add : CK K t.cAdd t.cSkip false
 set : CK K t.cSet t.cSkip false
 look : CK K t.cLook t.cSkip false
 swap : CK K t.cSwap t.cSkip false
 clear : CK K t.cClear t.cSkip false
 skip : CK K t.cSkip t.cSkip true
section
variable {P : Program} {w : World} {K : PySem.W.Frag} {mg : Str → Option Value} {base : Heap} {t : Adr}
theorem ck_word (T : StepsT K mg t) (S : IsSk K t) {x : Str} {ps : List V} (h : stepOk (.str x :: ps) = true) : Cls K (clsW t x) ∧ CK K (clsW t x) t.cSkip (decide (x = "skip")) := by
 unfold clsW
 by_cases e1 : x = "put"
 ·subst e1; rw [if_pos rfl]; exact ⟨T.clPut, S.put⟩
 rw [if_neg e1]
 by_cases e2 : x = "add"
 ·subst e2; rw [if_pos rfl]; exact ⟨T.clAdd, S.add⟩
 rw [if_neg e2]
 by_cases e3 : x = "set"
 ·subst e3; rw [if_pos rfl]; exact ⟨T.clSet, S.set⟩
 rw [if_neg e3]
 by_cases e4 : x = "look"
 ·subst e4; rw [if_pos rfl]; exact ⟨T.clLook, S.look⟩
 rw [if_neg e4]
 by_cases e5 : x = "swap"
 ·subst e5; rw [if_pos rfl]; exact ⟨T.clSwap, S.swap⟩
 rw [if_neg e5]
 by_cases e6 : x = "clear"
 ·subst e6; rw [if_pos rfl]; exact ⟨T.clClear, S.clear⟩
 rw [if_neg e6]
 have e7 := last_word h e1 e2 e3 e4 e5 e6
 subst e7
 exact ⟨T.clSkip, S.skip⟩
def spNP (C : Addr) : Sp := fun vs H Q _ => ∃ a fv c p, vs = [.ref a, c, p] ∧ H a = some (exv a (.ref C) none fv) ∧ ∀ d, H d = none → Q .non (upd (upd H a (exv a (.ref C) (some d) fv)) d (xdo d [("clerk", c), ("place", p)]))
theorem scNP : FnScope ["self", "clerk", "place"] ["self", "clerk", "place"] (defScope sNPI) := ⟨rfl, rfl, rfl, by decide +kernel, rfl, by decide +kernel, by decide +kernel⟩
theorem ok_NP {f C : Addr} {fd : FuncData} (F : Fun K "__init__" "NoProgram.__init__" sNPI f fd) (xf : XF K C) (n1 : NoAttr K C "clerk") (n2 : NoAttr K C "place") : FnOk P w K mg base CX0 1 f fd ["self", "clerk", "place"] (spNP C) := by
 refine F.ok scNP (fun vs H Q E h => ?_) (fun cdv A outer s H vs Q E hr h => ?_)
 ·obtain ⟨a, fv, c, p, rfl, _⟩ := h
  rfl
 ·obtain ⟨a, fv, c, p, rfl, ha, k⟩ := h
  refine ⟨_, pss_cons (ps_fldX0 (pv 0) (pv 1) rfl) (pss_one (ps_fldX1 (pv 0) (pv 2) rfl)), ?_⟩
  refine ⟨_, rfl, _, rfl, a, C, fv, rfl, ha, xf, n1, fun d hd => ?_⟩
  have nda : a ≠ d := ne_of_none ha hd
  refine ⟨_, rfl, _, rfl, a, C, fv, d, [("clerk", c)], rfl, by rw [upd_ne nda]; exact upd_same, upd_same, xf, n2, by show 1 < 1000; decide, ?_⟩
  rw [upd_upd]
  exact k d hd
theorem skip_int {v1 v2 : V} (h : stepOk [.str "skip", v1, v2] = true) : ∃ q, v2 = .int q := by
 have e : boundsM "skip" = some [4, 121] := by unfold boundsM; rw [if_neg (by decide +kernel), if_neg (by decide +kernel), if_neg (by decide +kernel), if_neg (by decide +kernel), if_neg (by decide +kernel), if_neg (by decide +kernel), if_pos rfl]
 have h' : (match boundsM "skip" with | none => false | some bs => decide ([v1, v2].length = bs.length) && ([v1, v2].zip bs).all fun p => wIn p.1 p.2) = true := h
 rw [e] at h'
 simp only [Bool.and_eq_true] at h'
 have h2 : (wIn v1 4 && (wIn v2 121 && true)) = true := h'.2
 rw [Bool.and_eq_true, Bool.and_eq_true] at h2
 cases v2 with
 | int q => exact ⟨q, rfl⟩
 | _ => cases h2.2.1
def spFits : Sp := fun vs H Q _ => ∃ v p n, vs = [v, .int p, .int n] ∧ Told H v ∧ ∀ H', Same H H' → Q (.bl (fitsM H v p n)) H'
theorem scFits : FnScope ["told", "place", "length", "step"] ["told", "place", "length"] (defScope sFits) := ⟨rfl, rfl, rfl, by decide +kernel, rfl, by decide +kernel, by decide +kernel⟩
theorem ok_Fits {f cN cE : Addr} {fd : FuncData} (F : Fun K "fits" "fits" sFits f fd) (T : StepsT K mg t) (S : IsSk K t) (xN : XFacts K cN cE) (mX : mg "NoStep" = some (.ref cN)) : FnOk P w K mg base CX0 5 f fd ["told", "place", "length"] spFits := by
 have GX : FnOk P w K mg base (CXE P w) 4 t.fO t.fdO ["told"] (spStepX t cN) := ok_stepX T xN.xc mX
 obtain ⟨uL, mL, rL⟩ := T.cn.long
 refine F.ok scFits (fun vs H Q E h => ?_) (fun cdv A outer s H vs Q E hr h => ?_)
 ·obtain ⟨v, p, n, rfl, _⟩ := h
  rfl
 ·obtain ⟨v, p, n, rfl, ⟨⟨Ty, hT⟩, hvw'⟩, k⟩ := h
  have hvw : ∀ xs, viewT H v = some xs → xs.length ≤ 1000 ∧ ∀ x ∈ xs, ∃ T, tyName H x = some T := fun xs e => ⟨(hvw' xs e).1, fun x hx => (flat_ty ((hvw' xs e).2 x hx)).1⟩
  refine ⟨_, pss_cons (ps_try0 rfl rfl rfl mX xN.base (fun W pn E hL hp => pss_one (ps_set (i := 3) scFits.nd rfl (Or.inl rfl) (pe_callX GX hr hL rfl T.mO T.fnO.kp T.bO .nil (pa_cons (pv 0) pa_nil)))) (fun ea pn => pss_one (ps_ret pe_bl)))
   (pss_cons (ps_if (PW.pt (pw_and (pt_val (pe_callB call_isi rfl T.bl.isi boot_isinstance (pa_cons (pv 3) (pa_cons (pe_glob (v := .ref t.cSkip) rfl T.mgSkip rfl) pa_nil)))) (pw_and1 (pt_cmpR op_gt (pe_fld (pv 3) rfl) (pv 2) (nomark _))))) (pss_one (ps_ret pe_bl)) pss_nil)
   (pss_one (ps_ret (pe_cmpR op_lt (pv 1) (pe_glob rfl mL rL) (nomark _))))), ?_⟩
  refine ⟨_, rfl, v, Ty, rfl, hT, hvw, fun a x ps e1 e2 e3 z dx H1 s1 hz hz1 => ?_, fun hst H1 s1 => ⟨xN.self, ?_⟩⟩
  ·subst e1
   have hst : isStep H (.ref a) = true := by unfold isStep; rw [viewT_of e2]; exact e3
   obtain ⟨cl, ck⟩ := ck_word T S e3
   refine ⟨_, rfl, _, .ref t.cSkip, .ref (clsW t x), .ref t.cSkip, decide (x = "skip"), rfl, TyOf.ins hz1 cl ck.cl S.gt S.tk ck.mr, rfl, ck.one, _, rfl, iteD (fun hx => ?_) (fun hx => ?_)⟩
   ·subst hx
    obtain ⟨v1, v2, hps⟩ := two_of e3 (bs := [4, 121]) (by unfold boundsM; rw [if_neg (by decide +kernel), if_neg (by decide +kernel), if_neg (by decide +kernel), if_neg (by decide +kernel), if_neg (by decide +kernel), if_neg (by decide +kernel), if_pos rfl])
    subst hps
    obtain ⟨q, rfl⟩ := skip_int e3
    have ef : skipFar H (.ref a) n = decide (n < q) := by unfold skipFar; rw [viewT_of e2]; rfl
    refine ⟨_, rfl, z, t.cSkip, dx, _, .int q, rfl, hz1, T.clSkip, T.n2Skip, rfl, _, rfl, _, _, rfl, rfl, _, rfl, iteD (fun hq => ?_) (fun hq => ?_)⟩
    ·have ee : fitsM H (.ref a) p n = false := by unfold fitsM; rw [ef, decide_eq_true hq, hst]; rfl
     have kk := k H1 s1
     rw [ee] at kk
     exact kk
    ·have ee : fitsM H (.ref a) p n = decide (p < 120) := by unfold fitsM; rw [ef, decide_eq_false hq, hst]; rfl
     have kk := k H1 s1
     rw [ee] at kk
     exact ⟨_, rfl, _, _, rfl, rfl, kk⟩
   ·have ef : skipFar H (.ref a) n = false := by
     unfold skipFar
     rw [viewT_of e2]
     split
     ·rename_i xx y q heq
      cases heq
      rw [decide_eq_false hx]; rfl
     ·rfl
    have ee : fitsM H (.ref a) p n = decide (p < 120) := by unfold fitsM; rw [ef, hst]; rfl
    have kk := k H1 s1
    rw [ee] at kk
    exact ⟨_, rfl, _, _, rfl, rfl, kk⟩
  ·have ee : fitsM H v p n = false := by unfold fitsM; rw [hst]; rfl
   have kk := k H1 s1
   rw [ee] at kk
   exact kk
end
end TL
namespace TL
open PySem PySem.Spec PyProof.Rows PySem.SeqAt L2 L3
theorem isi_K {X : Cx} (K : W.Frag) (h : X.K = K := by rfl) : CallR X (.builtin "isinstance") (rIsi K) := by subst h; exact call_isi
def partV (H : Hp) (x : V) : List V := (viewT H x).getD []
def hasM (H : Hp) (v : V) : Bool := match viewT H v with
 | some xs => (decide (1 ≤ xs.length) && decide (xs.length ≤ 4)) && xs.all fun x => (viewT H x).isSome
 | none => false
def Prog2 (H : Hp) (v : V) : Prop := (∃ T, tyName H v = some T) ∧ ∀ xs, viewT H v = some xs → xs.length ≤ 1000 ∧ ∀ x ∈ xs, (∃ T, tyName H x = some T) ∧ ∀ ys, viewT H x = some ys → ys.length ≤ 1000 ∧ ∀ y ∈ ys, Told H y
def badIn (H : Hp) (n : Int) : Nat → List V → Option Nat
 | _, [] => none
 | p, v :: r => if fitsM H v p n = true then badIn H n (p + 1) r else some p
def firstBad (H : Hp) : Nat → List V → Option (Nat × Nat)
 | _, [] => none
 | c, x :: r => match badIn H (partV H x).length 0 (partV H x) with
  | some p => some (c, p)
  | none => firstBad H (c + 1) r
theorem badIn_app {H : Hp} {n : Int} : ∀ {l r : List V} {p : Nat}, badIn H n p l = none → badIn H n p (l ++ r) = badIn H n (p + l.length) r
 | [], r, p, _ => rfl
 | v :: l, r, p, h => by
  have h' : (if fitsM H v p n = true then badIn H n (p + 1) l else some p) = none := h
  show (if fitsM H v p n = true then badIn H n (p + 1) (l ++ r) else some p) = _
  by_cases e : fitsM H v p n = true
  ·rw [if_pos e] at h' ⊢
   rw [badIn_app h', List.length_cons]
   congr 1
   omega
  ·rw [if_neg e] at h'; cases h'
theorem firstBad_app {H : Hp} : ∀ {l r : List V} {c : Nat}, firstBad H c l = none → firstBad H c (l ++ r) = firstBad H (c + l.length) r
 | [], r, c, _ => rfl
 | x :: l, r, c, h => by
  have h' : (match badIn H (partV H x).length 0 (partV H x) with | some p => some (c, p) | none => firstBad H (c + 1) l) = none := h
  show (match badIn H (partV H x).length 0 (partV H x) with | some p => some (c, p) | none => firstBad H (c + 1) (l ++ r)) = _
  cases e : badIn H (partV H x).length 0 (partV H x) with
  | some p => rw [e] at h'; cases h'
  | none =>
   rw [e] at h'
   show firstBad H (c + 1) (l ++ r) = _
   rw [firstBad_app h', List.length_cons]
   congr 1
   omega
theorem take_cons {α : Type} {l : List α} {i : Nat} {x : α} (h : l[i]? = some x) : l = l.take i ++ x :: l.drop (i + 1) := by
 obtain ⟨hi, e⟩ := List.getElem?_eq_some_iff.mp h
 rw [← e, ← List.drop_eq_getElem_cons hi, List.take_append_drop]
theorem badIn_succ {H : Hp} {n : Int} {l : List V} {i : Nat} {x : V} (hx : l[i]? = some x) (h : badIn H n 0 (l.take i) = none) (f : fitsM H x i n = true) : badIn H n 0 (l.take (i + 1)) = none := by
 have hi : i < l.length := (List.getElem?_eq_some_iff.mp hx).1
 rw [List.take_add_one, hx, badIn_app h, List.length_take, Nat.min_eq_left (Nat.le_of_lt hi), Nat.zero_add]
 show (if fitsM H x i n = true then none else some i) = none
 rw [if_pos f]
theorem badIn_hit {H : Hp} {n : Int} {l : List V} {i : Nat} {x : V} (hx : l[i]? = some x) (h : badIn H n 0 (l.take i) = none) (f : fitsM H x i n = false) : badIn H n 0 l = some i := by
 have hi : i < l.length := (List.getElem?_eq_some_iff.mp hx).1
 rw [take_cons hx, badIn_app h, List.length_take, Nat.min_eq_left (Nat.le_of_lt hi), Nat.zero_add]
 show (if fitsM H x i n = true then _ else some i) = some i
 rw [f, if_neg Bool.false_ne_true]
theorem firstBad_succ {H : Hp} {l : List V} {i : Nat} {x : V} (hx : l[i]? = some x) (h : firstBad H 0 (l.take i) = none) (f : badIn H (partV H x).length 0 (partV H x) = none) : firstBad H 0 (l.take (i + 1)) = none := by
 rw [List.take_add_one, hx, firstBad_app h]
 show (match badIn H (partV H x).length 0 (partV H x) with | some p => some (_, p) | none => none) = none
 rw [f]
theorem firstBad_hit {H : Hp} {l : List V} {i p : Nat} {x : V} (hx : l[i]? = some x) (h : firstBad H 0 (l.take i) = none) (f : badIn H (partV H x).length 0 (partV H x) = some p) : firstBad H 0 l = some (i, p) := by
 have hi : i < l.length := (List.getElem?_eq_some_iff.mp hx).1
 rw [take_cons hx, firstBad_app h, List.length_take, Nat.min_eq_left (Nat.le_of_lt hi), Nat.zero_add]
 show (match badIn H (partV H x).length 0 (partV H x) with | some p => some (i, p) | none => _) = some (i, p)
 rw [f]
theorem nd_part : (["part"] : List Str).Nodup := by decide +kernel
section
variable {P : Program} {w : World} {K : W.Frag} {mg : Str → Option Value} {base : Heap} {t : Adr}
def spHas : Sp := fun vs H Q _ => ∃ v, vs = [v] ∧ Prog2 H v ∧ ∀ H', Same H H' → Q (.bl (hasM H v)) H'
theorem scHas : FnScope ["program"] ["program"] (defScope sHas) := ⟨rfl, rfl, rfl, by decide +kernel, rfl, by decide +kernel, by decide +kernel⟩
theorem ok_Has {f : Addr} {fd : FuncData} (F : Fun K "has_clerks" "has_clerks" sHas f fd) (B : Bl mg) (C : ∃ u, mg "CLERKS" = some u ∧ RelV (.int 4) u) : FnOk P w K mg base CX0 1 f fd ["program"] spHas := by
 obtain ⟨uC, mC, rC⟩ := C
 refine F.ok scHas (fun vs H Q E h => ?_) (fun cdv A outer s H vs Q E hr h => ?_)
 ·obtain ⟨v, rfl, _⟩ := h
  rfl
 ·obtain ⟨v, rfl, ⟨⟨Ty, hT⟩, hx⟩, k⟩ := h
  refine ⟨_, pss_cons (ps_if (PW.pt (pw_or (pt_not (pt_val (pe_callB call_isi rfl B.isi boot_isinstance (pa_cons (pv 0) (pa_cons (pe_bltn (v := .ty "tuple") rfl B.tuple boot_tuple rfl) pa_nil)))))
    (pw_or1 (pt_not (pt_chain op_le op_le pe_int (pe_callB call_len_seq rfl B.len PySem.boot_len (pa_cons (pv 0) pa_nil)) (pe_glob rfl mC rC))))))
    (pss_one (ps_ret pe_bl)) pss_nil)
   (pss_one (ps_ret (pe_callB (call_all rfl) rfl B.all boot_all (pa_cons (pe_comp (N := ["part"]) (idx := []) rfl (ScC.of (by kernel_rfl)) (gkeep_name (Nat.zero_le _))
    (pi_tup (pv 0)) (fun _ _ _ _ => pg_name (i := 0) nd_part rfl (Or.inl rfl) (.inr rfl)) (fun _ _ _ _ => pts_nil)
    (fun _ _ _ _ => pe_callB (isi_K K) rfl B.isi boot_isinstance (pa_cons (pv 0) (pa_cons (pe_bltn (v := .ty "tuple") rfl B.tuple boot_tuple rfl) pa_nil)))) pa_nil)))), ?_⟩
  cases hv : viewT H v with
  | none =>
   have hi : isiB Ty "tuple" = false := by rw [noView hT, hv]; rfl
   have hst : hasM H v = false := by unfold hasM; rw [hv]
   have kk := k H (Same.refl H)
   rw [hst] at kk
   refine ⟨v, rfl, _, _, _, _, _, rfl, tyT hT, rfl, kitU hT (by decide), _, rfl, ?_⟩
   rw [hi]
   exact iteT (iteT kk)
  | some xs =>
   obtain ⟨a, e0, ha⟩ := viewT_ref hv
   subst e0
   obtain ⟨hl, hty⟩ := hx xs hv
   have hi : isiB Ty "tuple" = true := by rw [noView hT, hv]; rfl
   have kk : ∀ H', Same H H' → Q (.bl ((decide (1 ≤ xs.length) && decide (xs.length ≤ 4)) && xs.all fun x => (viewT H x).isSome)) H' := fun H' s => by
    have q := k H' s
    unfold hasM at q
    rw [hv] at q
    exact q
   refine ⟨_, rfl, _, _, _, _, _, rfl, tyT hT, rfl, kitU hT (by decide), _, rfl, ?_⟩
   rw [hi]
   refine iteF ?_
   refine ⟨_, rfl, a, xs, rfl, .inr (SqT.of ha), _, _, rfl, rfl, _, rfl, iteD (fun h1 => ?_) (fun h1 => ?_)⟩
   ·have e1 : decide (1 ≤ xs.length) = true := decide_eq_true (by omega)
    rw [e1, Bool.true_and] at kk
    refine ⟨_, _, rfl, rfl, _, rfl, iteND (fun h2 => ?_) (fun h2 => ?_)⟩
    ·have e2 : decide (xs.length ≤ 4) = false := decide_eq_false fun z => h2 (by omega)
     rw [e2, Bool.false_and] at kk
     exact kk H (Same.refl H)
    have e2 : decide (xs.length ≤ 4) = true := decide_eq_true (by omega)
    rw [e2, Bool.true_and] at kk
    refine ⟨_, rfl, a, rfl, ⟨xs, SqT.of ha⟩, ?_⟩
    refine compW_of (n := xs.length) (fun i ys H' => i ≤ xs.length ∧ Same H H' ∧ ys = (xs.take i).map fun x => V.bl (viewT H x).isSome) ?_ ?_ ?_ ?_ ?_ ?_ ?_
    ·exact Nat.le_of_lt (small1000 (by omega))
    ·exact ⟨Nat.zero_le _, Same.refl _, rfl⟩
    ·rintro i ys H' ⟨_, _, e⟩
     rw [e, List.length_map, List.length_take]
     omega
    ·rintro i ys H' hi ⟨_, s1, _⟩
     exact ⟨xs, xs[i], SqT.of (s1 _ _ ha), List.getElem?_eq_getElem hi⟩
    ·rintro ys H' ⟨_, s1, _⟩
     exact ⟨xs, SqT.of (s1 _ _ ha), Nat.le_refl _⟩
    ·rintro i ys H' hi ⟨_, s1, e⟩ x H'' ⟨eH, hx1⟩
     subst eH
     have hxi := hx1 xs (SqT.of (s1 _ _ ha))
     obtain ⟨⟨Tx, hTx⟩, _⟩ := hty x (List.mem_of_getElem? hxi)
     have hTx' := tyName_same s1 hTx
     refine ⟨_, rfl, _, _, _, _, _, rfl, tyT hTx', rfl, kitU hTx' (by decide), hi, s1, ?_⟩
     rw [List.take_add_one, hxi, List.map_append, ← e, noView hTx]
     rfl
    ·rintro ys H' ⟨_, s1, e⟩
     refine ⟨?_, fun r hr0 => ?_⟩
     ·rw [e, List.length_map, List.length_take]
      exact Nat.le_of_lt (small1000 (by omega))
     have ey : ys = ((xs.map fun x => (viewT H x).isSome)).map V.bl := by
      rw [e, List.take_of_length_le (Nat.le_refl _), List.map_map]
      rfl
     refine ⟨r, xs.map fun x => (viewT H x).isSome, rfl, SqL.of (by rw [upd_same, ey]), ?_⟩
     rw [List.all_map]
     exact kk _ (same_new s1 hr0)
   ·have e1 : decide (1 ≤ xs.length) = false := decide_eq_false fun z => h1 (by omega)
    rw [e1, Bool.false_and, Bool.false_and] at kk
    exact ⟨_, rfl, iteT (kk H (Same.refl H))⟩
def spLook (cC cP : Addr) : Sp := fun vs H Q E => ∃ v, vs = [v] ∧ Prog2 H v ∧ (hasM H v = false → ∀ H', Same H H' → E (.ref cC) none H') ∧
 (hasM H v = true → ∀ xs, viewT H v = some xs → (firstBad H 0 xs = none → ∀ H', Same H H' → Q .non H') ∧
  ∀ c p, firstBad H 0 xs = some (c, p) → ∀ d H', Same H H' → H' d = some (xdo d [("clerk", .int c), ("place", .int p)]) → E (.ref cP) (some d) H')
theorem scLook : FnScope ["program", "clerk", "part", "place", "told"] ["program"] (defScope sLookOver) := ⟨rfl, rfl, rfl, by decide +kernel, rfl, by decide +kernel, by decide +kernel⟩
theorem has_parts {H : Hp} {v : V} {xs : List V} (h : hasM H v = true) (hv : viewT H v = some xs) : ∀ x ∈ xs, viewT H x = some (partV H x) := fun x hx => by
 unfold hasM at h
 rw [hv] at h
 have h' : ((decide (1 ≤ xs.length) && decide (xs.length ≤ 4)) && xs.all fun x => (viewT H x).isSome) = true := h
 rw [Bool.and_eq_true] at h'
 have := List.all_eq_true.mp h'.2 x hx
 obtain ⟨ys, e⟩ := Option.isSome_iff_exists.mp this
 unfold partV
 rw [e]
 rfl
theorem ok_Look {f fH fF fI cC cP : Addr} {fd fdH fdF fdI : FuncData} (F : Fun K "look_over" "look_over" sLookOver f fd) (B : Bl mg) (hen : mg "enumerate" = none)
  (GH : FnOk P w K mg base CX0 1 fH fdH ["program"] spHas) (kH : W.keepIn K (.ref fH) = true) (bH : Binds K fdH ["program"] []) (mH : mg "has_clerks" = some (.ref fH))
  (GF : FnOk P w K mg base CX0 5 fF fdF ["told", "place", "length"] spFits) (kF : W.keepIn K (.ref fF) = true) (bF : Binds K fdF ["told", "place", "length"] []) (mF : mg "fits" = some (.ref fF))
  (xC : XC K cC) (mC : mg "NoClerks" = some (.ref cC)) (xP : XCI K cP fI) (GI : FnOk P w K mg base CX0 1 fI fdI ["self", "clerk", "place"] (spNP cP)) (bI : Binds K fdI ["self", "clerk", "place"] []) (mP : mg "NoProgram" = some (.ref cP)) :
  FnOk P w K mg base (CXE P w) 6 f fd ["program"] (spLook cC cP) := by
 refine F.okX scLook (fun vs H Q E h => ?_) (fun cdv A outer s H vs Q E hr hL hp h => ?_)
 ·obtain ⟨v, rfl, _⟩ := h
  rfl
 ·obtain ⟨v, rfl, hP, kC, kP⟩ := h
  refine ⟨_, pss_cons (ps_if (pt_not (pt_val (pe_call GH (hr.mono (by decide)) rfl mH kH bH .nil pass0 (pa_cons (pv 0) pa_nil)))) (pss_one (ps_raise rfl hL xC rfl mC (pa_cons pe_str pa_nil))) pss_nil)
   (pss_one (ps_for hp rfl (pi_enum (b := false) rfl hen (pa_cons (pv 0) pa_nil)) (pg_tup rfl (pgs_cons (pg_name (i := 1) scLook.nd rfl (Or.inl rfl)) (pgs_cons (pg_name (i := 2) scLook.nd rfl (Or.inl rfl)) pgs_nil)))
    (pss_one (ps_for hp rfl (pi_enum (b := false) rfl hen (pa_cons (pv 2) pa_nil)) (pg_tup rfl (pgs_cons (pg_name (i := 3) scLook.nd rfl (Or.inl rfl)) (pgs_cons (pg_name (i := 4) scLook.nd rfl (Or.inl rfl)) pgs_nil)))
     (pss_one (ps_if (pt_not (pt_val (pe_call GF hr rfl mF kF bF .nil pass0 (pa_cons (pv 4) (pa_cons (pv 3) (pa_cons (pe_callB call_len_seq rfl B.len PySem.boot_len (pa_cons (pv 2) pa_nil)) pa_nil))))))
      (pss_one (ps_raiseI rfl hL xP GI (hr.mono (by decide)) bI rfl mP (pa_cons (pv 1) (pa_cons (pv 3) pa_nil)))) pss_nil)))))), ?_⟩
  refine ⟨_, rfl, v, rfl, hP, fun H1 s1 => ⟨_, rfl, ?_⟩⟩
  cases hM : hasM H v with
  | false => exact iteT ⟨by show 1 ≤ sizeLine; decide, kC hM H1 s1⟩
  | true =>
  refine iteF ?_
  obtain ⟨xs, hv⟩ : ∃ xs, viewT H v = some xs := by
   unfold hasM at hM
   cases e : viewT H v with
   | none => rw [e] at hM; cases hM
   | some xs => exact ⟨xs, rfl⟩
  obtain ⟨kn, kb⟩ := kP hM xs hv
  have hpt := has_parts hM hv
  obtain ⟨_, hx⟩ := hP
  obtain ⟨hl, hty⟩ := hx xs hv
  obtain ⟨a, e0, ha⟩ := viewT_ref hv
  subst e0
  refine ⟨_, rfl, a, xs, rfl, SqT.of (s1 _ _ ha), for_of (n := xs.length) (fun i σ H' => i ≤ xs.length ∧ ∃ c q p d, σ = [some (.ref a), c, q, p, d] ∧ Same H H' ∧ firstBad H 0 (xs.take i) = none) ⟨Nat.zero_le _, none, none, none, none, rfl, s1, rfl⟩ ?_ ?_ ?_ ?_⟩
  ·rintro i σ H' hi ⟨_, _, _, _, _, _, s2, _⟩
   exact ⟨xs, xs[i], SqT.of (s2 _ _ ha), List.getElem?_eq_getElem hi⟩
  ·rintro σ H' ⟨_, _, _, _, _, _, s2, _⟩
   exact ⟨xs, SqT.of (s2 _ _ ha), Nat.le_refl _⟩
  ·rintro i σ H2 hi ⟨_, c, q, p, d, rfl, s2, hb⟩ z H3 ⟨r, x, hr0, ez, eH, hx1⟩
   subst ez
   subst eH
   have hxi := hx1 xs (SqT.of (s2 _ _ ha))
   have hm := List.mem_of_getElem? hxi
   obtain ⟨⟨Tx, hTx⟩, hys⟩ := hty x hm
   have hpx := hpt x hm
   obtain ⟨hyl, hyt⟩ := hys _ hpx
   obtain ⟨b, eb, hb1⟩ := viewT_ref hpx
   subst eb
   have s3 : Same H (upd H2 r (.tup [.int i, .ref b])) := same_new s2 hr0
   refine ⟨r, [.int i, .ref b], rfl, SqT.of upd_same, rfl, .int i, [.ref b], rfl, .ref b, [], rfl, rfl, ?_⟩
   refine ⟨_, rfl, b, partV H (.ref b), rfl, SqT.of (s3 _ _ hb1), for_of (n := (partV H (.ref b)).length) (fun j σ H' => ∃ p d, σ = [some (.ref a), some (.int i), some (.ref b), p, d] ∧ Same H H' ∧ badIn H (partV H (.ref b)).length 0 ((partV H (.ref b)).take j) = none) ⟨p, d, rfl, s3, rfl⟩ ?_ ?_ ?_ ?_⟩
   ·rintro j σ H' hj ⟨_, _, _, s4, _⟩
    exact ⟨_, (partV H (.ref b))[j], SqT.of (s4 _ _ hb1), List.getElem?_eq_getElem hj⟩
   ·rintro σ H' ⟨_, _, _, s4, _⟩
    exact ⟨_, SqT.of (s4 _ _ hb1), Nat.le_refl _⟩
   ·rintro j σ H4 hj ⟨p', d', rfl, s4, hbj⟩ z' H5 ⟨r', y, hr', ez', eH', hy1⟩
    subst ez'
    subst eH'
    have hyj := hy1 _ (SqT.of (s4 _ _ hb1))
    have hty' := hyt y (List.mem_of_getElem? hyj)
    have s5 : Same H (upd H4 r' (.tup [.int j, y])) := same_new s4 hr'
    refine ⟨r', [.int j, y], rfl, SqT.of upd_same, rfl, .int j, [y], rfl, y, [], rfl, rfl, ?_⟩
    refine ⟨_, rfl, _, rfl, _, rfl, b, _, rfl, .inr (SqT.of (s5 _ _ hb1)), y, j, _, rfl, hty'.same s5, fun H6 s6 => ⟨_, rfl, ?_⟩⟩
    rw [fits_same s5 hty']
    cases hf : fitsM H y j (partV H (.ref b)).length with
    | false =>
     refine iteT ⟨_, rfl, _, rfl, by show 2 ≤ sizeLine; decide, fun ea ta hea => ⟨ea, _, .int i, .int j, rfl, upd_same, fun d hd => ⟨rfl, some d, ?_, ?_⟩⟩⟩
     ·rw [upd_ne (ne_of_none upd_same hd)]; exact upd_same
     ·have s7 : Same H H6 := s5.trans s6
      have nde : d ≠ ea := fun z => by rw [z, upd_same] at hd; cases hd
      refine kb i j (firstBad_hit hxi hb (badIn_hit hyj hbj hf)) d _ (fun g o e => ?_) ?_
      ·have n1 : g ≠ ea := ne_of_none (s7 _ _ e) hea
       have n2 : g ≠ d := ne_of_none (show upd H6 ea _ g = some o by rw [upd_ne n1]; exact s7 _ _ e) hd
       rw [del_ne n1, upd_ne n2, upd_ne n1, upd_ne n1]
       exact s7 _ _ e
      ·rw [del_ne nde]; exact upd_same
    | true => exact iteF ⟨_, _, rfl, s5.trans s6, badIn_succ hyj hbj hf⟩
   ·rintro σ H4 ⟨p', d', rfl, s4, hbj⟩
    rw [List.take_of_length_le (Nat.le_refl _)] at hbj
    exact ⟨hi, _, _, _, _, rfl, s4, firstBad_succ hxi hb hbj⟩
  ·rintro σ H' ⟨_, c, q, p, d, rfl, s2, hb⟩
   rw [List.take_of_length_le (Nat.le_refl _)] at hb
   exact kn hb H' s2
end
end TL
namespace L4
open PySem PySem.Builtin PySem.Builtin.Str
abbrev one (c : Nat) : Str := ⟨#[c]⟩
def jl (c : Nat) : List (List Nat) → List Nat
 | [] => []
 | [x] => x
 | x :: y :: r => x ++ c :: jl c (y :: r)
theorem join_signs (c : Nat) : ∀ ws : List Str, (Str.join (one c) ws).cps.toList = jl c (ws.map (·.cps.toList))
 | [] => rfl
 | [x] => rfl
 | x :: y :: r => by
  have ih := join_signs c (y :: r)
  show (x ++ one c ++ Str.join (one c) (y :: r)).cps.toList = x.cps.toList ++ c :: jl c ((y :: r).map (·.cps.toList))
  rw [← ih]
  show ((x.cps ++ #[c]) ++ (Str.join (one c) (y :: r)).cps).toList = _
  simp
theorem cut_one {c : Nat} : ∀ {a b r s : List Nat}, c ∉ a → c ∉ b → a ++ c :: r = b ++ c :: s → a = b ∧ r = s
 | [], [], r, s, _, _, h => by simpa using h
 | [], y :: b, r, s, _, hb, h => by
  rw [List.nil_append, List.cons_append] at h
  injection h with h1 h2
  exact absurd (by rw [h1]; exact List.mem_cons_self ..) hb
 | x :: a, [], r, s, ha, _, h => by
  rw [List.nil_append, List.cons_append] at h
  injection h with h1 h2
  exact absurd (by rw [← h1]; exact List.mem_cons_self ..) ha
 | x :: a, y :: b, r, s, ha, hb, h => by
  rw [List.cons_append, List.cons_append] at h
  injection h with h1 h2
  obtain ⟨e1, e2⟩ := cut_one (fun z => ha (List.mem_cons_of_mem _ z)) (fun z => hb (List.mem_cons_of_mem _ z)) h2
  exact ⟨by rw [h1, e1], e2⟩
theorem jl_inj {c : Nat} : ∀ {ws ps : List (List Nat)}, ws ≠ [] → ps ≠ [] → (∀ w ∈ ws, c ∉ w) → (∀ p ∈ ps, c ∉ p) → jl c ws = jl c ps → ws = ps
 | [], _, h, _, _, _, _ => absurd rfl h
 | _ :: _, [], _, h, _, _, _ => absurd rfl h
 | [x], [y], _, _, _, _, h => by rw [show x = y from h]
 | [x], y :: z :: r, _, _, hw, _, h => by
  have h' : x = y ++ c :: jl c (z :: r) := h
  exact absurd (by rw [h']; simp) (hw x (List.mem_cons_self ..))
 | x :: z :: r, [y], _, _, _, hp, h => by
  have h' : x ++ c :: jl c (z :: r) = y := h
  exact absurd (by rw [← h']; simp) (hp y (List.mem_cons_self ..))
 | x :: z :: r, y :: u :: s, _, _, hw, hp, h => by
  have h' : x ++ c :: jl c (z :: r) = y ++ c :: jl c (u :: s) := h
  obtain ⟨e1, e2⟩ := cut_one (hw x (List.mem_cons_self ..)) (hp y (List.mem_cons_self ..)) h'
  have ih := jl_inj (ws := z :: r) (ps := u :: s) (by simp) (by simp) (fun w m => hw w (List.mem_cons_of_mem _ m)) (fun w m => hp w (List.mem_cons_of_mem _ m)) e2
  rw [e1, ih]
theorem str_ext {x y : Str} (h : x.cps.toList = y.cps.toList) : x = y := by
 cases x; cases y
 simp only [Str.mk.injEq]
 exact Array.toList_inj.mp h
theorem map_inj {ws ps : List Str} (h : ws.map (·.cps.toList) = ps.map (·.cps.toList)) : ws = ps := by
 induction ws generalizing ps with
 | nil => cases ps with
  | nil => rfl
  | cons p ps => simp at h
 | cons w ws ih => cases ps with
  | nil => simp at h
  | cons p ps =>
   simp only [List.map_cons, List.cons.injEq] at h
   rw [str_ext h.1, ih h.2]
theorem split_ne (x y : Str) : Txt.split x y ≠ [] := by
 unfold Txt.split
 split
 ·simp
 ·split
  ·simp
  ·rw [StrLaws.partsBetween_eq]
   obtain ⟨p, r, e⟩ := StrLaws.partsFrom_ne x y.length 0 (occurrences x y 0 x.length (x.length + 1))
   rw [e]; simp
theorem split_glued (x y : Str) : Str.join y (Txt.split x y) = x := by
 unfold Txt.split
 split
 ·rfl
 ·split
  ·rfl
  ·rw [← StrLaws.glued_eq_join]; exact StrLaws.glued_between_self x y _
theorem split_join {c : Nat} {ws : List Str} (h0 : ws ≠ []) (h : ∀ w ∈ ws, c ∉ w.cps.toList) : Txt.split (Txt.join (one c) ws) (one c) = ws := by
 have e1 : Txt.join (one c) ws = Str.join (one c) ws := StrLaws.glued_eq_join _ _
 rw [e1]
 have e2 := split_glued (Str.join (one c) ws) (one c)
 refine map_inj (jl_inj (c := c) (by simpa using split_ne _ _) (by simpa using h0) ?_ ?_ ?_)
 ·intro w hw
  obtain ⟨p, hp, rfl⟩ := List.mem_map.mp hw
  exact StrLaws.split_free _ c p hp
 ·intro w hw
  obtain ⟨p, hp, rfl⟩ := List.mem_map.mp hw
  exact h p hp
 ·rw [← join_signs, ← join_signs, e2]
end L4
namespace L4
open PySem PySem.Builtin PySem.Builtin.Str
def figs (n : Nat) : List Nat := (Nat.toDigits 10 n).map Char.toNat
theorem figs_if (n : Nat) : figs n = if n < 10 then [48 + n] else figs (n / 10) ++ [48 + n % 10] := by
 unfold figs
 rw [Nat.toDigits_eq_if (by decide)]
 split
 ·rename_i h
  simp only [List.map_cons, List.map_nil, Nat.toNat_digitChar_of_lt_ten h]
 ·simp only [List.map_append, List.map_cons, List.map_nil, Nat.toNat_digitChar_of_lt_ten (Nat.mod_lt n (by decide : 0 < 10))]
theorem figs_ok (n : Nat) : ∀ c ∈ figs n, 48 ≤ c ∧ c ≤ 57 := by
 induction n using Nat.strongRecOn with
 | ind n ih =>
  rw [figs_if]
  split
  ·intro c hc
   simp only [List.mem_singleton] at hc
   omega
  ·intro c hc
   rcases List.mem_append.mp hc with h | h
   ·exact ih (n / 10) (by omega) c h
   ·simp only [List.mem_singleton] at h
    omega
theorem figs_val (n : Nat) : (figs n).foldl (fun acc c => acc * 10 + (c - 48)) 0 = n := by
 induction n using Nat.strongRecOn with
 | ind n ih =>
  rw [figs_if]
  split
  ·simp
  ·rw [List.foldl_append, ih (n / 10) (by omega)]
   simp
   omega
theorem figs_ne (n : Nat) : figs n ≠ [] := by
 unfold figs
 intro h
 exact Nat.toDigits_ne_nil (List.map_eq_nil_iff.mp h)
theorem figs_len {n k : Nat} (h : n < 10 ^ k) (hk : 0 < k) : (figs n).length ≤ k := by
 unfold figs
 rw [List.length_map]
 exact (Nat.length_toDigits_le_iff (by decide) hk).mpr h
theorem figs_head (n : Nat) : (figs n).head? = some 48 → n = 0 := by
 induction n using Nat.strongRecOn with
 | ind n ih =>
  rw [figs_if]
  split
  ·intro h
   simp at h
   omega
  ·intro h
   have h1 : (figs (n / 10)).head? = some 48 := by
    cases e : figs (n / 10) with
    | nil => exact absurd e (figs_ne _)
    | cons a r => rw [e] at h; simpa using h
   have := ih (n / 10) (by omega) h1
   omega
def numS (n : Nat) : Str := ⟨(figs n).toArray⟩
theorem numS_eq (n : Nat) : Str.ofString (toString (n : Int)) = numS n := by
 rw [Str.ofString_eq_toList]
 show (⟨((toString n).toList.map Char.toNat).toArray⟩ : Str) = _
 unfold numS figs
 rw [Nat.toString_eq_ofList_toDigits]
 simp
theorem numS_signs (n : Nat) : (numS n).cps.toList = figs n := by unfold numS; simp
theorem numS_len (n : Nat) : (numS n).length = (figs n).length := by unfold numS; simp [Str.length]
end L4
namespace L4
open PySem PySem.Builtin PySem.Builtin.Str
abbrev Tl := Str × List Nat
inductive GoodT (sz : Nat) : Tl → Prop
 | put (r m : Nat) : r < 4 → m < 10 ^ 60 → GoodT sz ("put", [r, m])
 | add (r o : Nat) : r < 4 → o < 4 → GoodT sz ("add", [r, o])
 | set (n r : Nat) : n < 12 → r < 4 → GoodT sz ("set", [n, r])
 | look (r n : Nat) : r < 4 → n < 12 → GoodT sz ("look", [r, n])
 | swap (r n : Nat) : r < 4 → n < 12 → GoodT sz ("swap", [r, n])
 | clear : GoodT sz ("clear", [])
 | skip (r q : Nat) : r < 4 → q ≤ sz → q ≤ 120 → GoodT sz ("skip", [r, q])
theorem ten_le : (12 : Nat) ≤ 10 ^ 60 := by decide +kernel
theorem ten_le' : (121 : Nat) ≤ 10 ^ 60 := by decide +kernel
theorem GoodT.num {sz : Nat} {t : Tl} (g : GoodT sz t) : ∀ n ∈ t.2, n < 10 ^ 60 := by
 have h1 := ten_le
 have h2 := ten_le'
 cases g <;> (intro n hn; simp only [List.mem_cons, List.not_mem_nil, or_false] at hn; first | (rcases hn with rfl | rfl <;> omega) | done)
theorem GoodT.len {sz : Nat} {t : Tl} (g : GoodT sz t) : t.2.length ≤ 2 := by cases g <;> simp
def words7 : List Str := ["put", "add", "set", "look", "swap", "clear", "skip"]
theorem GoodT.word {sz : Nat} {t : Tl} (g : GoodT sz t) : t.1 ∈ words7 := by
 cases g <;> (unfold words7; simp only [List.mem_cons, true_or, or_true])
theorem words_ok : ∀ w ∈ words7, 32 ∉ w.cps.toList ∧ 10 ∉ w.cps.toList ∧ w.length ≤ 5 ∧ w ≠ ("clerk" : Str) := by unfold words7; decide +kernel
theorem num_free {n c : Nat} (h : c < 48) : c ∉ (numS n).cps.toList := by
 rw [numS_signs]
 intro m
 have := figs_ok n c m
 omega
def wdsOf (t : Tl) : List Str := t.1 :: t.2.map numS
def rowS (t : Tl) : Str := Txt.join (one 32) (wdsOf t)
theorem words_free {sz : Nat} {t : Tl} (g : GoodT sz t) : ∀ w ∈ wdsOf t, 32 ∉ w.cps.toList ∧ 10 ∉ w.cps.toList ∧ w.length ≤ 60 := by
 intro w hw
 rcases List.mem_cons.mp hw with e | h
 ·subst e
  have := words_ok _ g.word
  exact ⟨this.1, this.2.1, by omega⟩
 ·obtain ⟨n, hn, rfl⟩ := List.mem_map.mp h
  exact ⟨num_free (by decide), num_free (by decide), by rw [numS_len]; exact figs_len (g.num n hn) (by decide)⟩
theorem row_words {sz : Nat} {t : Tl} (g : GoodT sz t) : Txt.split (rowS t) (one 32) = wdsOf t :=
 split_join (by unfold wdsOf; simp) fun w hw => (words_free g w hw).1
theorem jl_mem {c d : Nat} : ∀ {ws : List (List Nat)}, d ∈ jl c ws → d = c ∨ ∃ w ∈ ws, d ∈ w
 | [], h => by simp [jl] at h
 | [x], h => .inr ⟨x, by simp, h⟩
 | x :: y :: r, h => by
  have h' : d ∈ x ++ c :: jl c (y :: r) := h
  rcases List.mem_append.mp h' with h1 | h1
  ·exact .inr ⟨x, by simp, h1⟩
  ·rcases List.mem_cons.mp h1 with h2 | h2
   ·exact .inl h2
   ·rcases jl_mem h2 with h3 | ⟨w, hw, h3⟩
    ·exact .inl h3
    ·exact .inr ⟨w, List.mem_cons_of_mem _ hw, h3⟩
theorem row_clean {sz : Nat} {t : Tl} (g : GoodT sz t) : 10 ∉ (rowS t).cps.toList := by
 unfold rowS
 rw [show Txt.join (one 32) (wdsOf t) = Str.join (one 32) (wdsOf t) from StrLaws.glued_eq_join _ _, join_signs]
 intro h
 rcases jl_mem h with h | ⟨w, hw, h⟩
 ·cases h
 ·obtain ⟨p, hp, rfl⟩ := List.mem_map.mp hw
  exact (words_free g p hp).2.1 h
theorem split_clerk : Txt.split (Str.ofString "clerk") (one 32) = [Str.ofString "clerk"] := by decide +kernel
theorem row_ne {sz : Nat} {t : Tl} (g : GoodT sz t) : rowS t ≠ ("clerk" : Str) := by
 intro h
 have e := row_words g
 rw [h, split_clerk] at e
 unfold wdsOf at e
 injection e with e1 e2
 exact (words_ok _ g.word).2.2.2 e1.symm
theorem words_len {sz : Nat} {t : Tl} (g : GoodT sz t) : (wdsOf t).length ≤ 3 := by
 unfold wdsOf
 rw [List.length_cons, List.length_map]
 have := g.len
 omega
theorem join_ok {c B : Nat} {ws : List Str} (hB : ∀ y ∈ ws, y.length ≤ B) (h : ws.length * B + ws.length ≤ 16777216) : JoinOk (one c) ws = true := by
 unfold JoinOk
 have := StrLaws.joinFits (sep := one c) hB (by show ws.length * B + ws.length * 1 ≤ _; omega)
 rw [this]
 rfl
theorem row_join {sz : Nat} {t : Tl} (g : GoodT sz t) : JoinOk (one 32) (wdsOf t) = true :=
 join_ok (B := 60) (fun w hw => (words_free g w hw).2.2) (by have := words_len g; omega)
theorem sum_le {B : Nat} : ∀ {l : List Nat}, (∀ x ∈ l, x ≤ B) → l.sum ≤ l.length * B
 | [], _ => by simp
 | x :: l, h => by
  have h1 := h x (by simp)
  have h2 := sum_le (l := l) fun y hy => h y (List.mem_cons_of_mem _ hy)
  rw [List.sum_cons, List.length_cons, Nat.succ_mul]
  omega
theorem row_len {sz : Nat} {t : Tl} (g : GoodT sz t) : (rowS t).length ≤ 200 := by
 have h := StrLaws.join_length_le (one 32) (wdsOf t)
 have e : rowS t = Str.join (one 32) (wdsOf t) := StrLaws.glued_eq_join _ _
 rw [← e] at h
 have h2 := sum_le (B := 60) (l := (wdsOf t).map (·.length)) fun x hx => by
  obtain ⟨w, hw, rfl⟩ := List.mem_map.mp hx
  exact (words_free g w hw).2.2
 rw [List.length_map] at h2
 have h3 := words_len g
 have h4 : (one 32).length = 1 := rfl
 rw [h4] at h
 have h5 : (wdsOf t).length * 60 ≤ 3 * 60 := Nat.mul_le_mul_right 60 h3
 omega
abbrev Pt := List Tl
def toks : List Pt → List (Option Tl)
 | [] => []
 | p :: ps => none :: p.map some ++ toks ps
def enc : Option Tl → Str
 | none => "clerk"
 | some t => rowS t
def rows (ps : List Pt) : List Str := (toks ps).map enc
def textS (ps : List Pt) : Str := Txt.join (one 10) (rows ps)
structure GoodP (ps : List Pt) : Prop where
 ne : 1 ≤ ps.length
 le : ps.length ≤ 4
 part : ∀ p ∈ ps, p.length ≤ 120 ∧ ∀ t ∈ p, GoodT p.length t
def GoodR (o : Option Tl) : Prop := ∀ t, o = some t → GoodT 120 t
theorem GoodT.mono {a b : Nat} {t : Tl} (g : GoodT a t) (h : a ≤ b) : GoodT b t := by
 cases g with
 | put r m h1 h2 => exact .put r m h1 h2
 | add r m h1 h2 => exact .add r m h1 h2
 | set r m h1 h2 => exact .set r m h1 h2
 | look r m h1 h2 => exact .look r m h1 h2
 | swap r m h1 h2 => exact .swap r m h1 h2
 | clear => exact .clear
 | skip r q h1 h2 h3 => exact .skip r q h1 (Nat.le_trans h2 h) h3
theorem toks_good : ∀ {ps : List Pt}, (∀ p ∈ ps, p.length ≤ 120 ∧ ∀ t ∈ p, GoodT p.length t) → ∀ o ∈ toks ps, GoodR o
 | [], _, o, h => by simp [toks] at h
 | p :: ps, g, o, h => by
  have h' : o ∈ none :: p.map some ++ toks ps := h
  rw [List.cons_append] at h'
  rcases List.mem_cons.mp h' with e | h1
  ·intro t q; rw [e] at q; cases q
  ·rcases List.mem_append.mp h1 with h2 | h2
   ·obtain ⟨t', ht, e⟩ := List.mem_map.mp h2
    intro t q
    rw [← e] at q
    cases q
    have := g p (by simp)
    exact (this.2 _ ht).mono this.1
   ·exact toks_good (fun p hp => g p (List.mem_cons_of_mem _ hp)) o h2
theorem toks_len : ∀ {ps : List Pt}, (∀ p ∈ ps, p.length ≤ 120) → (toks ps).length ≤ ps.length * 121
 | [], _ => by simp [toks]
 | p :: ps, g => by
  have h1 := g p (by simp)
  have h2 := toks_len (ps := ps) fun q hq => g q (List.mem_cons_of_mem _ hq)
  show (none :: p.map some ++ toks ps).length ≤ _
  rw [List.cons_append, List.length_cons, List.length_append, List.length_map, List.length_cons, Nat.succ_mul]
  omega
theorem GoodP.toks {ps : List Pt} (g : GoodP ps) : ∀ o ∈ toks ps, GoodR o := toks_good g.part
theorem GoodP.len {ps : List Pt} (g : GoodP ps) : (L4.toks ps).length ≤ 484 := by
 have h := toks_len fun p hp => (g.part p hp).1
 have h2 : ps.length * 121 ≤ 4 * 121 := Nat.mul_le_mul_right 121 g.le
 omega
theorem enc_free {o : Option Tl} (g : GoodR o) : 10 ∉ (enc o).cps.toList ∧ (enc o).length ≤ 200 := by
 cases o with
 | none => exact ⟨by show 10 ∉ (Str.ofString "clerk").cps.toList; decide +kernel, by show (Str.ofString "clerk").length ≤ 200; decide +kernel⟩
 | some t => exact ⟨row_clean (g t rfl), row_len (g t rfl)⟩
theorem rows_free {ps : List Pt} (g : GoodP ps) : ∀ w ∈ rows ps, 10 ∉ w.cps.toList ∧ w.length ≤ 200 := fun w hw => by
 obtain ⟨o, ho, rfl⟩ := List.mem_map.mp hw
 exact enc_free (g.toks o ho)
theorem rows_len {ps : List Pt} (g : GoodP ps) : (rows ps).length ≤ 484 := by
 unfold rows; rw [List.length_map]; exact g.len
theorem rows_ne {ps : List Pt} (g : GoodP ps) : rows ps ≠ [] := by
 cases ps with
 | nil => have := g.ne; simp at this
 | cons p ps => unfold rows toks; simp
theorem text_join {ps : List Pt} (g : GoodP ps) : JoinOk (one 10) (rows ps) = true :=
 join_ok (B := 200) (fun w hw => (rows_free g w hw).2) (by have := rows_len g; omega)
theorem text_split {ps : List Pt} (g : GoodP ps) : Txt.split (textS ps) (one 10) = rows ps := split_join (rows_ne g) fun w hw => (rows_free g w hw).1
theorem text_len {ps : List Pt} (g : GoodP ps) : (textS ps).length ≤ 100000 := by
 have h := StrLaws.join_length_le (one 10) (rows ps)
 have e : textS ps = Str.join (one 10) (rows ps) := StrLaws.glued_eq_join _ _
 rw [← e] at h
 have h2 := sum_le (B := 200) (l := (rows ps).map (·.length)) fun x hx => by
  obtain ⟨w, hw, rfl⟩ := List.mem_map.mp hx
  exact (rows_free g w hw).2
 rw [List.length_map] at h2
 have h3 := rows_len g
 have h4 : (one 10).length = 1 := rfl
 rw [h4] at h
 have h5 : (rows ps).length * 200 ≤ 484 * 200 := Nat.mul_le_mul_right 200 h3
 omega
def put1 (D : List Pt) : Option Tl → List Pt
 | none => D ++ [[]]
 | some t => D.dropLast ++ [D.getLast?.getD [] ++ [t]]
theorem put1_ne (D : List Pt) (o : Option Tl) : put1 D o ≠ [] := by cases o <;> simp [put1]
theorem fold_part : ∀ (p q : Pt) (D : List Pt), (p.map some).foldl put1 (D ++ [q]) = D ++ [q ++ p]
 | [], q, D => by simp
 | t :: p, q, D => by
  show (p.map some).foldl put1 (put1 (D ++ [q]) (some t)) = _
  have e : put1 (D ++ [q]) (some t) = D ++ [q ++ [t]] := by simp [put1]
  rw [e, fold_part p (q ++ [t]) D]
  simp
theorem fold_toks : ∀ (ps D : List Pt), (toks ps).foldl put1 D = D ++ ps
 | [], D => by simp [toks]
 | p :: ps, D => by
  show ((none :: p.map some ++ toks ps).foldl put1 D) = _
  rw [List.cons_append, List.foldl_cons, List.foldl_append]
  have e : put1 D none = D ++ [[]] := rfl
  rw [e, fold_part p [] D, fold_toks ps]
  simp
def readTo (ps : List Pt) (i : Nat) : List Pt := ((toks ps).take i).foldl put1 []
theorem readTo_succ {ps : List Pt} {i : Nat} {o : Option Tl} (h : (toks ps)[i]? = some o) : readTo ps (i + 1) = put1 (readTo ps i) o := by
 unfold readTo
 rw [List.take_add_one, h, List.foldl_append]
 rfl
theorem readTo_all (ps : List Pt) : readTo ps (toks ps).length = ps := by
 unfold readTo
 rw [List.take_length, fold_toks]
 rfl
theorem readTo_ne {ps : List Pt} (h : ps ≠ []) {i : Nat} {t : Tl} (hi : (toks ps)[i]? = some (some t)) : readTo ps i ≠ [] := by
 cases i with
 | zero =>
  cases ps with
  | nil => exact absurd rfl h
  | cons p ps => simp [toks] at hi
 | succ i =>
  have : i < (toks ps).length := by
   have := (List.getElem?_eq_some_iff.mp hi).1
   omega
  rw [readTo_succ (List.getElem?_eq_getElem this)]
  exact put1_ne _ _
theorem fold_join (x : Str) (ws : List Str) : ws.foldl (fun r w => r ++ one 32 ++ w) x = Txt.join (one 32) (x :: ws) := by
 have h : ∀ (ws : List Str) (x : Str), ws.foldl (fun r w => r ++ one 32 ++ w) x = ⟨ws.foldl (fun acc p => acc ++ (one 32).cps ++ p.cps) x.cps⟩ := by
  intro ws
  induction ws with
  | nil => intro x; rfl
  | cons w ws ih => intro x; rw [List.foldl_cons, List.foldl_cons, ih]; rfl
 rw [h]; rfl
theorem in_figs (c : Nat) (h : 48 ≤ c ∧ c ≤ 57) : (!(occurrences ("0123456789" : Str) ⟨#[c]⟩ 0 ("0123456789" : Str).length 1).isEmpty) = true := by
 rw [StrLaws.found_one, decide_eq_true_eq]
 have e : (Str.ofString "0123456789").cps.toList = [48, 49, 50, 51, 52, 53, 54, 55, 56, 57] := by decide +kernel
 rw [e]
 have : c = 48 ∨ c = 49 ∨ c = 50 ∨ c = 51 ∨ c = 52 ∨ c = 53 ∨ c = 54 ∨ c = 55 ∨ c = 56 ∨ c = 57 := by omega
 rcases this with h | h | h | h | h | h | h | h | h | h <;> (subst h; decide)
theorem first_zero {n : Nat} (h : (numS n).cps[0]? = some 48) : (numS n).length = 1 := by
 have e : (figs n).head? = some 48 := by
  have : (figs n)[0]? = some 48 := by rw [← numS_signs]; simpa using h
  rw [List.head?_eq_getElem?]; exact this
 have z := figs_head n e
 subst z
 decide +kernel
theorem first_of (n : Nat) : ∃ c, (numS n).cps[0]? = some c := by
 have h := figs_ne n
 have e := numS_signs n
 cases e2 : figs n with
 | nil => exact absurd e2 h
 | cons c r =>
  refine ⟨c, ?_⟩
  rw [e2] at e
  have : (numS n).cps.toList[0]? = some c := by rw [e]; rfl
  simpa using this
end L4
namespace L4
open PySem PySem.NumText
theorem text_figs {x : Str} {n : Nat} (hx : x.cps.toList = figs n) (hl : x.length ≤ 60) : PySem.intText? x = some (n : Int) := by
 have hd : AllDigits x.cps.toList := by
  intro c hc
  rw [hx] at hc
  exact figs_ok n c hc
 have hne : x.cps.toList ≠ [] := by rw [hx]; exact figs_ne n
 have e := intText_digits hd hne (Nat.le_trans hl (by decide))
 rw [hx] at e
 have v : digitsVal (figs n) = n := W.KIN.val_back n
 rw [v] at e
 exact e
end L4
namespace PySem
section
variable {prog : Program} {w : World} {A : Around} {E : Value → Shared → Prop} {s : Shared}
theorem call_int_str {x : Str} {t : Tok} {n : Nat} {Q : Value → Shared → Prop} (hx : x.cps.toList = L4.figs n) (hl : x.length ≤ 60) (h : Q (.int (n : Int) s.toks) { s with toks := s.toks + 1 }) : wpAny (model prog w) A (call (.type "int") [.str x t]) Q E s :=
 W.KIN.call_text (L4.text_figs hx hl) (Nat.le_trans hl (by decide)) h
end
end PySem
namespace L2
open PySem PySem.Spec PyProof.Rows PySem.Builtin PySem.Builtin.Str
section
variable {X : Cx}
theorem call_str_str : CallR X (.type "str") (fun xs H Q => ∃ z, xs = [.str z] ∧ Q (.str z) H) := by
 intro pins s σ H xs us Q I r h
 obtain ⟨z, rfl, q⟩ := h
 obtain ⟨u, rfl, t, rfl⟩ := vals1 r
 exact PySem.P.str_of_str ⟨.str z, H, I, ⟨_, rfl⟩, q⟩
theorem log_small {n : Nat} (h : n < 10 ^ 60) : n.log2 < 1920 := by
 by_cases e : n = 0
 ·subst e; decide
 ·rw [Nat.log2_lt e]
  exact Nat.lt_trans h (by decide +kernel)
theorem call_str_num : CallR X (.type "str") (fun xs H Q => ∃ n : Nat, xs = [.int n] ∧ n < 10 ^ 60 ∧ Q (.str (L4.numS n)) H) := by
 intro pins s σ H xs us Q I r h
 obtain ⟨n, rfl, hn, q⟩ := h
 exact call_str_int pins s σ H _ us Q I r ⟨n, rfl, log_small hn, by rw [L4.numS_eq]; exact q⟩
theorem call_int_num : CallR X (.type "int") (fun xs H Q => ∃ n : Nat, xs = [.str (L4.numS n)] ∧ n < 10 ^ 60 ∧ Q (.int n) H) := by
 intro pins s σ H xs us Q I r h
 obtain ⟨n, rfl, hn, q⟩ := h
 obtain ⟨u, rfl, t, rfl⟩ := vals1 r
 exact call_int_str (n := n) (L4.numS_signs n) (by rw [L4.numS_len]; exact L4.figs_len hn (by decide)) ⟨.int _, H, I.tok _, ⟨_, rfl⟩, q⟩
theorem strs_vals : ∀ {ws : List Str} {us : List Value}, Vals (ws.map V.str) us → ∃ l : List (Str × Tok), us = strValues l ∧ l.map (·.1) = ws
 | [], _, h => by cases h; exact ⟨[], rfl, rfl⟩
 | w :: ws, _, h => by
  cases h with
  | cons h1 h2 =>
   obtain ⟨t, e⟩ := h1
   obtain ⟨l, e1, e2⟩ := strs_vals h2
   exact ⟨(w, t) :: l, by rw [e, e1]; rfl, by rw [List.map_cons, e2]⟩
theorem vals_strs : ∀ (l : List (Str × Tok)), Vals ((l.map (·.1)).map V.str) (strValues l)
 | [] => .nil
 | p :: l => .cons ⟨p.2, rfl⟩ (vals_strs l)
def rJoin (K : PySem.W.Frag) : V → List V → Hp → VK → Prop := fun x vs H Q => ∃ sep p ws, x = .str sep ∧ vs = [.ref p] ∧ SqL K H p (ws.map V.str) ∧ JoinOk sep ws = true ∧ Q (.str (Txt.join sep ws)) H
theorem mt_join : MtR X "str.join" (rJoin X.K) := by
 intro pins s σ H x xs v us Q I rx rs q
 obtain ⟨sep, p, ws, rfl, rfl, hq, hok, q⟩ := q
 obtain ⟨t, rfl⟩ := rx
 obtain ⟨u, rfl, ru⟩ := Vals.one rs
 cases ru
 obtain ⟨its, rv, pl, hz⟩ := I.list hq
 obtain ⟨l, e1, e2⟩ := strs_vals rv
 subst e1 e2
 have hok' : tooLong ((l.map (·.1)).toArray.foldl (· + ·.length + sep.length) 0) = false := by
  unfold JoinOk at hok
  simpa using hok
 exact call_meets F.slot_str_join (typeIs_str s sep t) F.entry_str_join (F.args_str_join_2 _ _) (meets_str_join_list sep t p l hok')
  ⟨pl.isList, post_join l ⟨joinFit_length hok', fun t' k => ⟨.str _, H, I.tok k, ⟨_, rfl⟩, q⟩⟩⟩
def rSplit : V → List V → Hp → VK → Prop := fun x vs H Q => ∃ z sep, x = .str z ∧ vs = [.str sep] ∧ (sep.length == 0) = false ∧ z.length ≤ 1000000 ∧ ∀ p, H p = none → Q (.ref p) (upd H p (.lst ((Txt.split z sep).map V.str)))
theorem parts_few (z sep : Str) (h : z.length ≤ 1000000) : (partsBetween z (occurrences z sep 0 z.length (z.length + 1)) sep.length).length ≤ sizeLine := by
 have h1 := StrLaws.occ_length_le z sep 0 z.length (z.length + 1)
 have hs : sizeLine = 16777216 := sizeLine_eq
 unfold partsBetween
 rw [List.length_map, List.length_zip]
 have e : (occurrences z sep 0 z.length (z.length + 1) ++ [z.length]).length = (occurrences z sep 0 z.length (z.length + 1)).length + 1 := by simp
 rw [e]
 omega
theorem mt_split : MtR X "str.split" rSplit := by
 intro pins s σ H x xs v us Q I rx rs q
 obtain ⟨z, sep, rfl, rfl, hy, hl, q⟩ := q
 obtain ⟨t, rfl⟩ := rx
 obtain ⟨u, rfl, tu, rfl⟩ := Vals.one rs
 have hs : sizeLine = 16777216 := sizeLine_eq
 have q0 := q s.heap.objs.size I.fresh
 cases h1 : (decide (z.length < sep.length) || decide (strKind z < strKind sep))
 ·cases hf : (occurrences z sep 0 z.length (z.length + 1)).isEmpty
  ·have e : Txt.split z sep = partsBetween z (occurrences z sep 0 z.length (z.length + 1)) sep.length := (if_neg (ne_true_of_eq_false h1)).trans (if_neg (ne_true_of_eq_false hf))
   have hn := parts_few z sep hl
   rw [e] at q0
   refine call_meets F.slot_str_split (typeIs_str s z t) F.entry_str_split (F.args_str_split_2 _ _) (meets_str_split_sep z sep t tu h1 hy hf (by omega) hn) ?_
   rw [strsFrom_eq]
   have hv := vals_strs (numbered s.toks (partsBetween z (occurrences z sep 0 z.length (z.length + 1)) sep.length))
   rw [numbered_texts] at hv
   exact ⟨.ref _, _, I.lnew hv (by rw [List.length_map]; exact hn), rfl, q0⟩
  ·have e : Txt.split z sep = [z] := (if_neg (ne_true_of_eq_false h1)).trans (if_pos hf)
   rw [e] at q0
   refine call_meets F.slot_str_split (typeIs_str s z t) F.entry_str_split (F.args_str_split_2 _ _) (meets_str_split_not_found z sep t tu h1 hy hf) ?_
   exact ⟨.ref _, _, I.lnew (ys := [.str z]) (its := [.str z t]) (t' := s.toks) (.cons ⟨t, rfl⟩ .nil) (by show 1 ≤ sizeLine; decide), rfl, q0⟩
 ·have e : Txt.split z sep = [z] := if_pos h1
  rw [e] at q0
  refine call_meets F.slot_str_split (typeIs_str s z t) F.entry_str_split (F.args_str_split_2 _ _) (meets_str_split_cannot_occur z sep t tu h1) ?_
  exact ⟨.ref _, _, I.lnew (ys := [.str z]) (its := [.str z t]) (t' := s.toks) (.cons ⟨t, rfl⟩ .nil) (by show 1 ≤ sizeLine; decide), rfl, q0⟩
end
def Its (z : Str) : It := ⟨fun i _ => i < z.length, fun i H x H' => H' = H ∧ ∃ c, z.cps[i]? = some c ∧ x = .str ⟨#[c]⟩, fun i _ => z.length ≤ i⟩
theorem turn_str {P : Program} {w : World} {K : PySem.W.Frag} {tg : Expr} (it : Addr) (z : Str) (t : Tok) : Turn P w K tg (Its z) [it] it (fun i h => h.IsStrIter it "str_ascii_iterator" z t i) where
 mem := by simp
 obj := fun i h st b hb => by
  have e : b = it := by simpa using hb
  subst e
  obtain ⟨o, e, c, d⟩ := st
  exact ⟨o, e, fun v z => by rw [d] at z; cases z⟩
 keep := fun i h h' st k => by
  obtain ⟨o, e, r⟩ := st
  exact ⟨o, k it (by simp) o e, r⟩
 item := by
  intro X hP hw hK hc i pins s σ H E I hf st hg
  subst hP hw hK
  obtain ⟨f0, f1, f2, f3, f4, f5⟩ := hf it (by simp)
  have hlt : i < z.cps.size := hg
  refine wpAny_pyNext_ascii_item st (c := z.cps[i]) (by simp [hlt]) fun h' st' sb => ?_
  have I1 : Inv X pins σ H { s with heap := h', toks := s.toks + 1 } := I.turned (t' := s.toks + 1) (fun b o hb e => (sb.2 b hb).trans e) f0 f1 f3 f4 f5
  obtain ⟨o, e, c, d⟩ := id st'
  exact ⟨_, rfl, go_of (s := { s with heap := h', toks := s.toks + 1 }) e c d (by decide) ⟨.str ⟨#[z.cps[i]]⟩, H, I1, ⟨_, rfl⟩, ⟨rfl, z.cps[i], by simp [hlt], rfl⟩, st', fun b hb => (hf b hb).1⟩⟩
 done := by
  intro X hP hw hK hc i pins s σ H E I hf st hg
  subst hP hw hK
  obtain ⟨f0, f1, f2, f3, f4, f5⟩ := hf it (by simp)
  have hle : z.cps.size ≤ i := hg
  exact wpAny_pyNext_ascii_end (I.ok.hd hc) st (by simp [hle]) fun h' eb => ⟨rfl, I.turned (t' := s.toks) (fun b o hb e => eb b o hb e) f0 f1 f3 f4 f5⟩
 self := fun _ _ _ _ _ st h => wpAny_pyIter_striter_ascii st h
def iStr (tl : TE) : TI := fun σ H R => tl σ H fun x H1 => ∃ z, x = .str z ∧ z.cps.all (· < 128) = true ∧ R (Its z) H1
theorem pi_str {X : Cx} {tg : Expr} {l : Expr} {tl : TE} (hl : PE X l tl) : PI X tg l (iStr tl) := by
 intro pins s σ H R I h
 refine thn (hl pins s σ H _ I h) fun v s1 ⟨x, H1, I1, r1, q1⟩ => ?_
 obtain ⟨z, e, ha, q⟩ := q1
 subst e
 obtain ⟨t, rfl⟩ := r1
 refine wpAny_pyIter_ascii ha ?_
 refine ⟨s1.heap.objs.size, [s1.heap.objs.size], _, _, H1, rfl, I1.kept (t' := s1.toks) fun b o e => Heap.get?_push_of_some _ e, turn_str _ z t, ⟨_, Heap.get?_push_size _ rfl, rfl, rfl⟩, fun b hb => ?_, q⟩
 have e : b = s1.heap.objs.size := by simpa using hb
 subst e
 exact I1.fpOk (Nat.le_refl _) (I1.hok.fresh (Nat.le_refl _))
theorem ps_tryN {X : Cx} {body : List Stmt} {h0 : ExceptHandler} {hs : List ExceptHandler} {pos : Pos} {tb : WX → TS}
  (hb : ∀ (W : WX) (pn : List (Addr × Obj)) (E : Value → Shared → Prop), Lifts (X.body pn E) W → PassesOwn (model X.prog X.w) X.A X.env E → PSs (X.body pn E) body (tb W)) :
  PS X (.Try body (h0 :: hs) [] [] pos) (tb fun _ _ _ _ => False) := by
 intro pins s σ H D I h
 refine wpAny_Try_except (wpAny_mono (hb (fun _ _ _ _ => False) (X.pn ++ pins) _ ?_ PassesOwn.looking [] s σ H D (I.body _) h) (fun f s1 q => ?_) fun _ _ y => y)
 ·intro pl σ1 H1 s1 ea c dd tb1 x1 hW
  exact hW.elim
 ·have q' := SP.unbody q
  cases f with
  | next => exact wpAny_execs_nil q'
  | brk => exact q'
  | cont => exact q'
  | ret u => exact q'
end L2
namespace TL
open PySem PySem.Spec PyProof.Rows PySem.SeqAt L2 L3 L4
theorem bl32 : Str.ofString " " = one 32 := by decide +kernel
theorem nl10 : Str.ofString "\n" = one 10 := by decide +kernel
theorem told_tup {H : Hp} {p : Addr} {xs : List V} (e : H p = some (.tup xs)) (hl : xs.length ≤ 1000) (hx : ∀ x ∈ xs, flatTy x = true) : Told H (.ref p) :=
 ⟨⟨_, tyName_tup e⟩, fun ys q => by rw [viewT_of e] at q; cases q; exact ⟨hl, hx⟩⟩
def tv (t : Tl) : List V := .str t.1 :: t.2.map fun (n : Nat) => V.int (n : Int)
def IsTold (H : Hp) (v : V) (t : Tl) : Prop := ∃ a, v = .ref a ∧ H a = some (.tup (tv t))
def IsPart (H : Hp) (v : V) (p : Pt) : Prop := ∃ a vs, v = .ref a ∧ H a = some (.tup vs) ∧ Paired (IsTold H) vs p
def IsProg (H : Hp) (v : V) (ps : List Pt) : Prop := ∃ a vs, v = .ref a ∧ H a = some (.tup vs) ∧ Paired (IsPart H) vs ps
theorem IsTold.same {H H' : Hp} {v : V} {t : Tl} (s : Same H H') (h : IsTold H v t) : IsTold H' v t := by
 obtain ⟨a, e, h⟩ := h
 exact ⟨a, e, s _ _ h⟩
theorem IsPart.same {H H' : Hp} {v : V} {p : Pt} (s : Same H H') (h : IsPart H v p) : IsPart H' v p := by
 obtain ⟨a, vs, e, h, r⟩ := h
 exact ⟨a, vs, e, s _ _ h, Paired.mapP r fun _ _ q => q.same s⟩
theorem IsProg.same {H H' : Hp} {v : V} {p : List Pt} (s : Same H H') (h : IsProg H v p) : IsProg H' v p := by
 obtain ⟨a, vs, e, h, r⟩ := h
 exact ⟨a, vs, e, s _ _ h, Paired.mapP r fun _ _ q => q.same s⟩
theorem Paired.at' {α β : Type} {F : α → β → Prop} : ∀ {l : List α} {m : List β} {i : Nat} {x : α}, Paired F l m → l[i]? = some x → ∃ y, m[i]? = some y ∧ F x y
 | _, _, _, _, .nil, h => by simp at h
 | _, _, 0, _, .cons h _, e => by
  simp only [List.getElem?_cons_zero, Option.some.injEq] at e
  subst e
  exact ⟨_, rfl, h⟩
 | _, _, i + 1, _, .cons _ t, e => by
  rw [List.getElem?_cons_succ] at e ⊢
  exact Paired.at' t e
theorem tv_len (t : Tl) : (tv t).length = (wdsOf t).length := by unfold tv wdsOf; simp
theorem tv_at {t : Tl} {i : Nat} {x : V} (h : (tv t)[i]? = some x) : ∃ w, (wdsOf t)[i]? = some w ∧ (x = .str w ∨ ∃ n ∈ t.2, x = .int (n : Nat) ∧ w = numS n) := by
 cases i with
 | zero =>
  have e : V.str t.1 = x := by simpa [tv] using h
  exact ⟨t.1, rfl, .inl e.symm⟩
 | succ i =>
  have h' : (t.2.map fun (n : Nat) => V.int (n : Int))[i]? = some x := h
  rw [List.getElem?_map] at h'
  cases e : t.2[i]? with
  | none => rw [e] at h'; cases h'
  | some n =>
   rw [e] at h'
   cases h'
   refine ⟨numS n, ?_, .inr ⟨n, List.mem_of_getElem? e, rfl, rfl⟩⟩
   show (t.2.map numS)[i]? = _
   rw [List.getElem?_map, e]
   rfl
section
variable {P : Program} {w : World} {K : W.Frag} {mg : Str → Option Value} {base : Heap}
def spRow : Sp := fun vs H Q _ => ∃ v t sz, vs = [v] ∧ IsTold H v t ∧ GoodT sz t ∧ ∀ H', Same H H' → Q (.str (rowS t)) H'
theorem scRow : FnScope ["told"] ["told"] (defScope sRowOf) := ⟨rfl, rfl, rfl, by decide +kernel, rfl, by decide +kernel, by decide +kernel⟩
theorem ok_Row {f : Addr} {fd : FuncData} (F : Fun K "row_of" "row_of" sRowOf f fd) (B : Bl mg) : FnOk P w K mg base CX0 1 f fd ["told"] spRow := by
 refine F.ok scRow (fun vs H Q E h => ?_) (fun cdv A outer s H vs Q E hr h => ?_)
 ·obtain ⟨v, t, sz, rfl, _⟩ := h
  rfl
 ·obtain ⟨v, t, sz, rfl, ⟨a, rfl, ha⟩, hg, k⟩ := h
  refine ⟨_, pss_one (ps_ret (pe_bm PySem.F.plainAttrs_str PySem.F.slot_str_join PySem.F.type_str_join mt_join pe_str (pa_cons (pe_comp (N := ["part"]) (idx := []) rfl (ScC.of (by kernel_rfl)) (gkeep_name (Nat.zero_le _))
    (pi_tup (pv 0)) (fun _ _ _ _ => pg_name (i := 0) nd_part rfl (Or.inl rfl) (.inr rfl)) (fun _ _ _ _ => pts_nil)
    (fun _ _ _ _ => pe_callTy (CallR.or call_str_str call_str_num) rfl B.str boot_str (pa_cons (pv 0) pa_nil))) pa_nil))), ?_⟩
  refine ⟨rfl, _, rfl, a, rfl, ⟨_, SqT.of ha⟩, ?_⟩
  have hlen := words_len hg
  have hvl := tv_len t
  refine compW_of (n := (tv t).length) (fun i ys H' => i ≤ (tv t).length ∧ Same H H' ∧ ys = ((wdsOf t).take i).map V.str) ?_ ?_ ?_ ?_ ?_ ?_ ?_
  ·exact Nat.le_of_lt (small1000 (by omega))
  ·exact ⟨Nat.zero_le _, Same.refl _, rfl⟩
  ·rintro i ys H' ⟨_, _, e⟩
   rw [e, List.length_map, List.length_take]
   omega
  ·rintro i ys H' hi ⟨_, s1, _⟩
   exact ⟨_, (tv t)[i], SqT.of (s1 _ _ ha), List.getElem?_eq_getElem hi⟩
  ·rintro ys H' ⟨_, s1, _⟩
   exact ⟨_, SqT.of (s1 _ _ ha), Nat.le_refl _⟩
  ·rintro i ys H' hi ⟨_, s1, e⟩ x H'' ⟨eH, hx1⟩
   subst eH
   obtain ⟨wd, hw, hx⟩ := tv_at (hx1 _ (SqT.of (s1 _ _ ha)))
   have fin : i + 1 ≤ (tv t).length ∧ Same H H'' ∧ ys ++ [V.str wd] = ((wdsOf t).take (i + 1)).map V.str := by
    refine ⟨hi, s1, ?_⟩
    rw [List.take_add_one, hw, List.map_append, ← e]
    rfl
   rcases hx with rfl | ⟨n, hn, rfl, rfl⟩
   ·exact ⟨_, rfl, .inl ⟨_, rfl, fin⟩⟩
   ·exact ⟨_, rfl, .inr ⟨n, rfl, hg.num n hn, fin⟩⟩
  ·rintro ys H' ⟨_, s1, e⟩
   refine ⟨?_, fun r hr0 => ?_⟩
   ·rw [e, List.length_map, List.length_take]
    exact Nat.le_of_lt (small1000 (by omega))
   refine ⟨_, r, wdsOf t, rfl, rfl, SqL.of ?_, ?_, ?_⟩
   ·rw [upd_same, e, hvl, List.take_of_length_le (Nat.le_refl _)]
   ·rw [bl32]; exact row_join hg
   ·rw [bl32]; exact k _ (same_new s1 hr0)
structure Tx (mg : Str → Option Value) : Prop where
 head : ∃ u, mg "HEAD" = some u ∧ RelV (.str "clerk") u
 figs : ∃ u, mg "FIGURES" = some u ∧ RelV (.str "0123456789") u
 most : ∃ u, mg "MOST_FIGURES" = some u ∧ RelV (.int 60) u
def spNum : Sp := fun vs H Q _ => ∃ n : Nat, vs = [.str (numS n)] ∧ n < 10 ^ 60 ∧ ∀ H', Same H H' → Q (.bl true) H'
theorem scNum : FnScope ["word"] ["word"] (defScope sIsNum) := ⟨rfl, rfl, rfl, by decide +kernel, rfl, by decide +kernel, by decide +kernel⟩
theorem nd_sign : (["sign"] : List Str).Nodup := by decide +kernel
theorem figs_pos (n : Nat) : 1 ≤ (figs n).length := by
 have := figs_ne n
 cases e : figs n with
 | nil => exact absurd e this
 | cons a r => rw [List.length_cons]; omega
theorem ok_Num {f : Addr} {fd : FuncData} (F : Fun K "is_number" "is_number" sIsNum f fd) (B : Bl mg) (T : Tx mg) : FnOk P w K mg base CX0 1 f fd ["word"] spNum := by
 obtain ⟨uF, mF, rF⟩ := T.figs
 obtain ⟨uM, mM, rM⟩ := T.most
 refine F.ok scNum (fun vs H Q E h => ?_) (fun cdv A outer s H vs Q E hr h => ?_)
 ·obtain ⟨n, rfl, _⟩ := h
  rfl
 ·obtain ⟨n, rfl, hn, k⟩ := h
  have hl : (numS n).length ≤ 60 := by rw [numS_len]; exact figs_len hn (by decide)
  have hp : 1 ≤ (numS n).length := by rw [numS_len]; exact figs_pos n
  have hz : (numS n).length ≤ sizeLine := Nat.le_of_lt (small1000 (by omega))
  refine ⟨_, pss_cons (ps_if (pt_not (pt_chain op_le op_le pe_int (pe_callB call_len_str rfl B.len PySem.boot_len (pa_cons (pv 0) pa_nil)) (pe_glob rfl mM rM))) (pss_one (ps_ret pe_bl)) pss_nil)
   (pss_cons (ps_if (PW.pt (pw_and (pt_cmpR op_eq (pe_item_str (pv 0) pe_int (fun _ _ => rfl)) pe_str (nomark _)) (pw_and1 (pt_cmpR op_gt (pe_callB call_len_str rfl B.len PySem.boot_len (pa_cons (pv 0) pa_nil)) pe_int (nomark _))))) (pss_one (ps_ret pe_bl)) pss_nil)
   (pss_one (ps_ret (pe_callB (call_all rfl) rfl B.all boot_all (pa_cons (pe_comp (N := ["sign"]) (idx := []) rfl (ScC.of (by kernel_rfl)) (gkeep_name (Nat.zero_le _))
    (pi_str (pv 0)) (fun _ _ _ _ => pg_name (i := 0) nd_sign rfl (Or.inl rfl) (.inr rfl)) (fun _ _ _ _ => pts_nil)
    (fun _ _ _ _ => pe_cmpR op_in_str (pv 0) (pe_glob rfl mF rF) rfl)) pa_nil))))), ?_⟩
  refine ⟨_, rfl, _, rfl, hz, _, _, rfl, rfl, _, rfl, iteD (fun h1 => ?_) (fun h1 => absurd (by omega) h1)⟩
  refine ⟨_, _, rfl, rfl, _, rfl, iteND (fun h2 => absurd (by omega) h2) (fun h2 => ?_)⟩
  obtain ⟨c, hc⟩ := first_of n
  have tail : ∀ {Q : VK}, (∀ H', Same H H' → Q (.bl true) H') → CompW (Its (numS n)) (gName 0) tYes (tOp (fun x y H Q => ∃ i j, x = .str i ∧ y = .str j ∧ Q (.bl (!(Builtin.Str.occurrences j i 0 j.length 1).isEmpty)) H) (tVar 0) (tC (.str "0123456789"))) (capS [] ["sign"].length [some (.str (numS n))]) H
    fun ys H2 => ys.length ≤ sizeLine ∧ ∀ p, H2 p = none → ∃ (q : Addr) (bs : List Bool), ([V.ref p] : List V) = [.ref q] ∧ SqL K (upd H2 p (.lst ys)) q (bs.map V.bl) ∧ Q (.bl (bs.all id)) (upd H2 p (.lst ys)) := by
   intro Q k
   refine compW_of (n := (numS n).length) (fun i ys H' => Same H H' ∧ ys = (List.replicate i true).map V.bl) hz ?_ ?_ ?_ ?_ ?_ ?_
   ·exact ⟨Same.refl _, rfl⟩
   ·rintro i ys H' ⟨_, e⟩
    rw [e, List.length_map, List.length_replicate]
    omega
   ·rintro i ys H' hi _
    exact hi
   ·rintro ys H' _
    exact Nat.le_refl _
   ·rintro i ys H' hi ⟨s1, e⟩ x H'' ⟨eH, c, hc, ex⟩
    subst eH
    subst ex
    have hm : c ∈ figs n := by
     rw [← numS_signs]
     have : (numS n).cps.toList[i]? = some c := by simpa using hc
     exact List.mem_of_getElem? this
    refine ⟨_, rfl, _, _, rfl, rfl, s1, ?_⟩
    rw [in_figs c (figs_ok n c hm), e, List.replicate_succ', List.map_append]
    rfl
   ·rintro ys H' ⟨s1, e⟩
    refine ⟨by rw [e, List.length_map, List.length_replicate]; exact hz, fun r hr0 => ?_⟩
    refine ⟨r, List.replicate (numS n).length true, rfl, SqL.of (by rw [upd_same, e]), ?_⟩
    have e2 : (List.replicate (numS n).length true).all id = true := by simp
    rw [e2]
    exact k _ (same_new s1 hr0)
  have ha : ((numS n).cps.all fun x => decide (x < 128)) = true := by
   rw [← Array.all_toList, List.all_eq_true, numS_signs]
   intro c hc
   have := figs_ok n c hc
   simp
   omega
  refine ⟨_, rfl, _, 0, c, rfl, rfl, by decide, by decide, by omega, hc, rfl, _, rfl, iteD (fun h3 => ?_) (fun h3 => ?_)⟩
  ·have h48 : c = 48 := by
    have e := str_inj h3
    have e2 : (⟨#[c]⟩ : Str).cps.toList = (Str.ofString "0").cps.toList := by rw [e]
    have e3 : (Str.ofString "0").cps.toList = [48] := by decide +kernel
    rw [e3] at e2
    simpa using e2
   subst h48
   have h1 := first_zero hc
   refine ⟨_, rfl, _, rfl, hz, _, _, rfl, rfl, _, rfl, iteD (fun h4 => absurd h4 (by rw [h1]; decide)) (fun _ => ?_)⟩
   exact ⟨_, rfl, _, rfl, ha, tail k⟩
  ·exact ⟨_, rfl, _, rfl, ha, tail k⟩
def spNumOf : Sp := fun vs H Q _ => ∃ n : Nat, vs = [.str (numS n)] ∧ n < 10 ^ 60 ∧ ∀ H', Same H H' → Q (.int n) H'
theorem scNumOf : FnScope ["word"] ["word"] (defScope sNumOf) := ⟨rfl, rfl, rfl, by decide +kernel, rfl, by decide +kernel, by decide +kernel⟩
theorem ok_NumOf {f fN : Addr} {fd fdN : FuncData} (F : Fun K "number_of" "number_of" sNumOf f fd) (B : Bl mg) (GN : FnOk P w K mg base CX0 1 fN fdN ["word"] spNum) (kN : W.keepIn K (.ref fN) = true) (bN : Binds K fdN ["word"] []) (mN : mg "is_number" = some (.ref fN)) :
  FnOk P w K mg base CX0 2 f fd ["word"] spNumOf := by
 refine F.ok scNumOf (fun vs H Q E h => ?_) (fun cdv A outer s H vs Q E hr h => ?_)
 ·obtain ⟨n, rfl, _⟩ := h
  rfl
 ·obtain ⟨n, rfl, hn, k⟩ := h
  refine ⟨_, pss_one (ps_ret (pe_ifExp (pt_val (pe_call GN hr rfl mN kN bN .nil pass0 (pa_cons (pv 0) pa_nil))) (pe_callTy call_int_num rfl B.int boot_int (pa_cons (pv 0) pa_nil)) pe_non)), ?_⟩
  exact ⟨_, rfl, n, rfl, hn, fun H1 s1 => ⟨_, rfl, iteT ⟨_, rfl, n, rfl, hn, k H1 s1⟩⟩⟩
end
end TL
namespace L2
open PySem PySem.Spec PyProof.Rows
theorem same_upd {H H' : Hp} {l : Addr} {o : HO} (s : Same H H') (h : H l = none) : Same H (upd H' l o) := fun b u e => by
 rw [upd_ne (ne_of_none e h)]
 exact s b u e
end L2
namespace TL
open PySem PySem.Spec PyProof.Rows PySem.SeqAt L2 L3 L4
theorem cut0 (y : V) (ps : List V) : cutV (y :: ps) none (some 1) = [y] := by
 unfold cutV
 have e1 : HT.sIx (y :: ps).length 0 none = 0 := rfl
 have e2 : HT.sIx (y :: ps).length (y :: ps).length (some 1) = 1 := by
  have := HT.sIx_nat (y :: ps).length (y :: ps).length 1
  rw [show ((1 : Nat) : Int) = 1 from rfl] at this
  rw [this, List.length_cons]
  omega
 rw [e1, e2]
 rfl
section
variable {P : Program} {w : World} {K : W.Frag} {mg : Str → Option Value} {base : Heap}
def spToldOf : Sp := fun vs H Q _ => ∃ t sz, vs = [.str (rowS t)] ∧ GoodT sz t ∧ ∀ v H', Same H H' → IsTold H' v t → Q v H'
theorem scToldOf : FnScope ["row", "words"] ["row"] (defScope sToldOf) := ⟨rfl, rfl, rfl, by decide +kernel, rfl, by decide +kernel, by decide +kernel⟩
theorem nd_word : (["word"] : List Str).Nodup := by decide +kernel
theorem ok_ToldOf {f fN : Addr} {fd fdN : FuncData} (F : Fun K "told_of" "told_of" sToldOf f fd) (B : Bl mg) (GN : FnOk P w K mg base CX0 2 fN fdN ["word"] spNumOf) (kN : W.keepIn K (.ref fN) = true) (bN : Binds K fdN ["word"] []) (mN : mg "number_of" = some (.ref fN)) :
  FnOk P w K mg base CX0 3 f fd ["row"] spToldOf := by
 refine F.ok scToldOf (fun vs H Q E h => ?_) (fun cdv A outer s H vs Q E hr h => ?_)
 ·obtain ⟨t, sz, rfl, _⟩ := h
  rfl
 ·obtain ⟨t, sz, rfl, hg, k⟩ := h
  refine ⟨_, pss_cons (ps_set (i := 1) scToldOf.nd rfl (Or.inl rfl) (pe_bm PySem.F.plainAttrs_str PySem.F.slot_str_split PySem.F.type_str_split mt_split (pv 0) (pa_cons pe_str pa_nil)))
   (pss_one (ps_ret (pe_callTy call_tuple_of rfl B.tuple boot_tuple (pa_cons (pe_op op_cat (pe_slice sl_list (pv 1) po_none (po_some pe_int))
    (pe_comp (N := ["word"]) (idx := []) rfl (ScC.of (by kernel_rfl)) (gkeep_name (Nat.zero_le _)) (pi_list (pe_slice sl_list (pv 1) (po_some pe_int) po_none))
     (fun _ _ _ _ => pg_name (i := 0) nd_word rfl (Or.inl rfl) (.inr rfl)) (fun _ _ _ _ => pts_nil) (fun _ _ _ _ => pe_call GN hr rfl mN kN bN .nil pass0 (pa_cons (pv 0) pa_nil)))) pa_nil)))), ?_⟩
  have hl := row_len hg
  refine ⟨_, rfl, rfl, _, _, rfl, rfl, by rw [bl32]; rfl, by omega, fun p hp => ?_⟩
  rw [bl32, row_words hg]
  have ep : (wdsOf t).map V.str = .str t.1 :: (t.2.map numS).map V.str := rfl
  rw [ep]
  have s0 : Same H (upd H p (.lst (.str t.1 :: (t.2.map numS).map V.str))) := same_new (Same.refl H) hp
  refine ⟨_, rfl, _, rfl, p, _, rfl, SqL.of upd_same, fun p1 hp1 => ?_⟩
  rw [cut0]
  have s1 := same_new (o := .lst [.str t.1]) (Same.refl _) hp1
  refine ⟨_, rfl, _, rfl, p, _, rfl, SqL.of (s1 _ _ upd_same), fun p2 hp2 => ?_⟩
  rw [cut1]
  have s2 := same_new (o := .lst ((t.2.map numS).map V.str)) (Same.refl _) hp2
  have h1 := s2 _ _ (upd_same (H := upd H p (.lst (.str t.1 :: (t.2.map numS).map V.str))) (a := p1) (o := .lst [.str t.1]))
  have h2 := upd_same (H := upd (upd H p (.lst (.str t.1 :: (t.2.map numS).map V.str))) p1 (.lst [.str t.1])) (a := p2) (o := .lst ((t.2.map numS).map V.str))
  have s3 := (s0.trans s1).trans s2
  generalize upd (upd (upd H p (.lst (.str t.1 :: (t.2.map numS).map V.str))) p1 (.lst [.str t.1])) p2 (.lst ((t.2.map numS).map V.str)) = H3 at h1 h2 s3 ⊢
  refine ⟨p2, rfl, ⟨_, SqL.of h2⟩, ?_⟩
  have hlen := hg.len
  refine compW_of (n := t.2.length) (fun i ys H' => i ≤ t.2.length ∧ Same H3 H' ∧ ys = (t.2.take i).map fun (n : Nat) => V.int (n : Int)) ?_ ?_ ?_ ?_ ?_ ?_ ?_
  ·exact Nat.le_of_lt (small1000 (by omega))
  ·exact ⟨Nat.zero_le _, Same.refl _, rfl⟩
  ·rintro i ys H' ⟨_, _, e⟩
   rw [e, List.length_map, List.length_take]
   omega
  ·rintro i ys H' hi ⟨_, s4, _⟩
   exact ⟨_, ((t.2.map numS).map V.str)[i]'(by simpa using hi), SqL.of (s4 _ _ h2), List.getElem?_eq_getElem _⟩
  ·rintro ys H' ⟨_, s4, _⟩
   exact ⟨_, SqL.of (s4 _ _ h2), by simp⟩
  ·rintro i ys H' hi ⟨_, s4, e⟩ x H'' ⟨eH, hx1⟩
   subst eH
   have hx := hx1 _ (SqL.of (s4 _ _ h2))
   have hi2 : t.2[i]? = some t.2[i] := List.getElem?_eq_getElem hi
   rw [List.getElem?_map, List.getElem?_map, hi2] at hx
   cases hx
   refine ⟨_, rfl, t.2[i], rfl, hg.num _ (List.getElem_mem hi), fun H5 s5 => ⟨hi, s4.trans s5, ?_⟩⟩
   rw [List.take_add_one, hi2, List.map_append, ← e]
   rfl
  ·rintro ys H' ⟨_, s4, e⟩
   refine ⟨?_, fun r hr0 => ?_⟩
   ·rw [e, List.length_map, List.length_take]
    exact Nat.le_of_lt (small1000 (by omega))
   rw [List.take_of_length_le (Nat.le_refl _)] at e
   have s5 := same_new (o := .lst ys) s4 hr0
   refine ⟨p1, r, [.str t.1], ys, rfl, rfl, s5 _ _ h1, upd_same, ?_, fun q hq => ?_⟩
   ·rw [e, List.length_map]
    exact Nat.le_of_lt (small1000 (by simp; omega))
   have s6 := same_new (o := .lst ([.str t.1] ++ ys)) s5 hq
   refine ⟨q, _, rfl, .inl ⟨SqL.of upd_same, fun q2 hq2 => k _ _ ((s3.trans s6).trans (same_new (Same.refl _) hq2)) ⟨q2, rfl, ?_⟩⟩⟩
   rw [upd_same, e]
   rfl
theorem toks_app : ∀ (a b : List Pt), toks (a ++ b) = toks a ++ toks b
 | [], b => rfl
 | p :: a, b => by
  show none :: p.map some ++ toks (a ++ b) = (none :: p.map some ++ toks a) ++ toks b
  rw [toks_app a b, List.append_assoc]
theorem rows_snoc (a : List Pt) (p : Pt) : rows (a ++ [p]) = rows a ++ (Str.ofString "clerk" :: p.map rowS) := by
 unfold rows
 rw [toks_app, List.map_append]
 congr 1
 show (none :: p.map some ++ []).map enc = _
 rw [List.append_nil, List.map_cons, List.map_map]
 rfl
theorem good_few {ps : List Pt} (g : GoodP ps) (i : Nat) : (rows (ps.take i)).length ≤ 484 := by
 unfold rows
 rw [List.length_map]
 have h := toks_len (ps := ps.take i) fun p hp => (g.part p (List.mem_of_mem_take hp)).1
 have h2 : (ps.take i).length ≤ 4 := by rw [List.length_take]; have := g.le; omega
 have h3 : (ps.take i).length * 121 ≤ 4 * 121 := Nat.mul_le_mul_right 121 h2
 omega
def spText : Sp := fun vs H Q _ => ∃ v ps, vs = [v] ∧ IsProg H v ps ∧ GoodP ps ∧ ∀ H', Same H H' → Q (.str (textS ps)) H'
theorem scText : FnScope ["program", "rows", "part"] ["program"] (defScope sProgText) := ⟨rfl, rfl, rfl, by decide +kernel, rfl, by decide +kernel, by decide +kernel⟩
theorem nd_told : (["told"] : List Str).Nodup := by decide +kernel
theorem ok_Text {f fR : Addr} {fd fdR : FuncData} (F : Fun K "program_text" "program_text" sProgText f fd) (T : Tx mg) (GR : FnOk P w K mg base CX0 1 fR fdR ["told"] spRow) (kR : W.keepIn K (.ref fR) = true) (bR : Binds K fdR ["told"] []) (mR : mg "row_of" = some (.ref fR)) :
  FnOk P w K mg base CX0 2 f fd ["program"] spText := by
 obtain ⟨uH, mH, rH⟩ := T.head
 refine F.ok scText (fun vs H Q E h => ?_) (fun cdv A outer s H vs Q E hr h => ?_)
 ·obtain ⟨v, ps, rfl, _⟩ := h
  rfl
 ·obtain ⟨v, ps, rfl, ⟨a, pvs, rfl, ha, hpair⟩, hg, k⟩ := h
  refine ⟨_, pss_cons (ps_set (i := 1) scText.nd rfl (Or.inl rfl) (pe_lst pa_nil))
   (pss_cons (ps_for PassesOwn.never rfl (pi_tup (pv 0)) (pg_name (i := 2) scText.nd rfl (Or.inl rfl))
    (pss_cons (ps_expr (pe_bm PySem.F.plainAttrs_list PySem.F.slot_list_append PySem.F.type_list_append mt_append (pv 1) (pa_cons (pe_glob rfl mH rH) pa_nil)))
    (pss_one (ps_expr (pe_bm PySem.F.plainAttrs_list PySem.F.slot_list_extend PySem.F.type_list_extend mt_extend (pv 1)
     (pa_cons (pe_comp (N := ["told"]) (idx := []) rfl (ScC.of (by kernel_rfl)) (gkeep_name (Nat.zero_le _)) (pi_tup (pv 2))
      (fun _ _ _ _ => pg_name (i := 0) nd_told rfl (Or.inl rfl) (.inr rfl)) (fun _ _ _ _ => pts_nil) (fun _ _ _ _ => pe_call GR hr rfl mR kR bR .nil pass0 (pa_cons (pv 0) pa_nil))) pa_nil))))))
   (pss_one (ps_ret (pe_bm PySem.F.plainAttrs_str PySem.F.slot_str_join PySem.F.type_str_join mt_join pe_str (pa_cons (pv 1) pa_nil))))), ?_⟩
  refine ⟨by decide, fun l hl => ?_⟩
  have hpl : pvs.length = ps.length := Paired.length hpair
  refine ⟨_, rfl, a, rfl, ⟨_, SqT.of (same_new (Same.refl H) hl _ _ ha)⟩, for_tup (xs := pvs) (fun i σ H' => ∃ x, σ = [some (.ref a), some (.ref l), x] ∧ Same H H' ∧ H' l = some (.lst ((rows (ps.take i)).map V.str)))
   ⟨none, rfl, same_new (Same.refl H) hl, upd_same⟩ (fun i σ H' _ ⟨_, _, s1, _⟩ => SqT.of (s1 _ _ ha)) ?_ ?_⟩
  ·rintro i x σ H1 hx ⟨_, rfl, s1, hH⟩
   obtain ⟨p, hp, hpt⟩ := Paired.at' hpair hx
   obtain ⟨b, tvs, rfl, hb, htv⟩ := hpt
   have hpm := List.mem_of_getElem? hp
   obtain ⟨hpl1, hpg⟩ := hg.part p hpm
   have htl : tvs.length = p.length := Paired.length htv
   have few := good_few hg i
   refine ⟨_, rfl, .inl ⟨rfl, _, SqL.of hH⟩, l, _, _, rfl, rfl, hH, small1000 (by rw [List.length_map]; omega), ?_⟩
   have s2 : Same H (upd H1 l (.lst ((rows (ps.take i)).map V.str ++ [.str "clerk"]))) := same_upd s1 hl
   refine ⟨_, rfl, .inl ⟨rfl, _, SqL.of upd_same⟩, _, rfl, b, rfl, ⟨_, SqT.of (s2 _ _ hb)⟩, ?_⟩
   refine compW_of (n := tvs.length) (fun j ys H' => Same (upd H1 l (.lst ((rows (ps.take i)).map V.str ++ [.str "clerk"]))) H' ∧ ys = ((p.take j).map rowS).map V.str ∧ j ≤ tvs.length) ?_ ?_ ?_ ?_ ?_ ?_ ?_
   ·exact Nat.le_of_lt (small1000 (by omega))
   ·exact ⟨Same.refl _, rfl, Nat.zero_le _⟩
   ·rintro j ys H' ⟨_, e, hj⟩
    rw [e, List.length_map, List.length_map, List.length_take]
    omega
   ·rintro j ys H' hj ⟨s3, _⟩
    exact ⟨_, tvs[j], SqT.of ((s2.trans s3) _ _ hb), List.getElem?_eq_getElem hj⟩
   ·rintro ys H' ⟨s3, _⟩
    exact ⟨_, SqT.of ((s2.trans s3) _ _ hb), Nat.le_refl _⟩
   ·rintro j ys H' hj ⟨s3, e, _⟩ y H'' ⟨eH, hy1⟩
    subst eH
    have hy := hy1 _ (SqT.of ((s2.trans s3) _ _ hb))
    obtain ⟨t, ht, htd⟩ := Paired.at' htv hy
    refine ⟨_, rfl, _, t, _, rfl, htd.same (s2.trans s3), hpg t (List.mem_of_getElem? ht), fun H5 s5 => ⟨s3.trans s5, ?_, hj⟩⟩
    rw [List.take_add_one, ht, List.map_append, List.map_append, ← e]
    rfl
   ·rintro ys H' ⟨s3, e, _⟩
    rw [htl, List.take_of_length_le (Nat.le_refl _)] at e
    refine ⟨by rw [e, List.length_map, List.length_map]; exact Nat.le_of_lt (small1000 (by omega)), fun r hr0 => ?_⟩
    have s4 := same_new (o := .lst ys) s3 hr0
    refine ⟨l, r, _, ys, rfl, rfl, s4 _ _ upd_same, upd_same, ?_, _, rfl, same_upd (s2.trans s4) hl, ?_⟩
    ·rw [e, List.length_append, List.length_map, List.length_map, List.length_map]
     exact Nat.le_of_lt (small1000 (by simp; omega))
    ·rw [upd_same, List.take_add_one, hp]
     show _ = some (HO.lst ((rows (ps.take i ++ [p])).map V.str))
     rw [rows_snoc, List.map_append, e]
     simp
  ·rintro σ H1 ⟨x, rfl, s1, hH⟩
   rw [hpl, List.take_of_length_le (Nat.le_refl _)] at hH
   refine ⟨rfl, _, rfl, _, l, rows ps, rfl, rfl, SqL.of hH, ?_, ?_⟩
   ·rw [nl10]; exact text_join hg
   ·rw [nl10]; exact k _ s1
end
end TL
namespace TL
open PySem PySem.Spec PyProof.Rows PySem.SeqAt L2 L3 L4
def IsOpen (H : Hp) (a : Addr) (q : Pt) : Prop := ∃ tvs, H a = some (.lst tvs) ∧ Paired (IsTold H) tvs q
theorem told_upd {H : Hp} {v : V} {t : Tl} {l : Addr} {o : HO} (h : IsTold H v t) (hl : ∀ xs, H l ≠ some (.tup xs)) : IsTold (upd H l o) v t := by
 obtain ⟨a, e, h⟩ := h
 refine ⟨a, e, ?_⟩
 rw [upd_ne fun z => hl _ (z ▸ h)]
 exact h
theorem open_upd {H : Hp} {a l : Addr} {q : Pt} {o : HO} (h : IsOpen H a q) (ne : a ≠ l) (hl : ∀ xs, H l ≠ some (.tup xs)) : IsOpen (upd H l o) a q := by
 obtain ⟨tvs, e, r⟩ := h
 refine ⟨tvs, ?_, Paired.mapP r fun _ _ q => told_upd q hl⟩
 rw [upd_ne ne]
 exact e
theorem IsOpen.same {H H' : Hp} {a : Addr} {q : Pt} (s : Same H H') (h : IsOpen H a q) : IsOpen H' a q := by
 obtain ⟨tvs, e, r⟩ := h
 exact ⟨tvs, s _ _ e, Paired.mapP r fun _ _ q => q.same s⟩
theorem mem_paired {α β : Type} {F : α → β → Prop} : ∀ {l : List α} {m : List β} {b : α}, Paired F l m → b ∈ l → ∃ y, y ∈ m ∧ F b y
 | _, _, _, .nil, h => by simp at h
 | _, _, _, .cons h t, e => by
  rcases List.mem_cons.mp e with z | z
  ·subst z; exact ⟨_, by simp, h⟩
  ·obtain ⟨y, hy, q⟩ := mem_paired t z
   exact ⟨y, List.mem_cons_of_mem _ hy, q⟩
theorem Paired.imp_mem {α β : Type} {F G : α → β → Prop} : ∀ {l : List α} {m : List β}, Paired F l m → (∀ a ∈ l, ∀ b, F a b → G a b) → Paired G l m
 | _, _, .nil, _ => .nil
 | _, _, .cons h t, k => .cons (k _ (by simp) _ h) (Paired.imp_mem t fun a ha b q => k a (List.mem_cons_of_mem _ ha) b q)
theorem Paired.snoc_inv {α β : Type} {F : α → β → Prop} : ∀ {l : List α} {m : List β}, Paired F l m → m ≠ [] → ∃ l0 x m0 y, l = l0 ++ [x] ∧ m = m0 ++ [y] ∧ Paired F l0 m0 ∧ F x y
 | _, _, .nil, h => absurd rfl h
 | [a], [b], .cons h .nil, _ => ⟨[], a, [], b, rfl, rfl, .nil, h⟩
 | a :: a2 :: l, b :: b2 :: m, .cons h (.cons h2 t), _ => by
  obtain ⟨l0, x, m0, y, e1, e2, p, q⟩ := Paired.snoc_inv (.cons h2 t) (by simp)
  exact ⟨a :: l0, x, b :: m0, y, by rw [e1]; rfl, by rw [e2]; rfl, .cons h p, q⟩
structure Rd1 (H H' : Hp) (l : Addr) (D : List Pt) : Prop where
 same : Same H H'
 hl : H l = none
 ex : ∃ as : List Addr, H' l = some (.lst (as.map V.ref)) ∧ Paired (IsOpen H') as D ∧ as.Nodup ∧ l ∉ as ∧ ∀ a ∈ as, H a = none
theorem lst_notup {H : Hp} {l : Addr} {xs : List V} (h : H l = some (.lst xs)) : ∀ ys, H l ≠ some (.tup ys) := fun ys e => by rw [h] at e; cases e
theorem none_notup {H : Hp} {l : Addr} (h : H l = none) : ∀ ys, H l ≠ some (.tup ys) := fun ys e => by rw [h] at e; cases e
theorem readTo_len {ps : List Pt} (i : Nat) : (readTo ps i).length ≤ i := by
 induction i with
 | zero => simp [readTo]
 | succ i ih =>
  by_cases h : i < (toks ps).length
  ·rw [readTo_succ (List.getElem?_eq_getElem h)]
   cases (toks ps)[i] with
   | none => show (readTo ps i ++ [[]]).length ≤ _; rw [List.length_append, List.length_singleton]; omega
   | some t =>
    show ((readTo ps i).dropLast ++ [_]).length ≤ _
    rw [List.length_append, List.length_singleton, List.length_dropLast]
    omega
  ·have : readTo ps (i + 1) = readTo ps i := by
    unfold readTo
    rw [List.take_of_length_le (by omega), List.take_of_length_le (by omega)]
   rw [this]
   omega
theorem readTo_part {ps : List Pt} (i : Nat) : ∀ q ∈ readTo ps i, q.length ≤ i := by
 induction i with
 | zero => intro q hq; simp [readTo] at hq
 | succ i ih =>
  by_cases h : i < (toks ps).length
  ·rw [readTo_succ (List.getElem?_eq_getElem h)]
   cases (toks ps)[i] with
   | none =>
    intro q hq
    rcases List.mem_append.mp (show q ∈ readTo ps i ++ [[]] from hq) with h1 | h1
    ·have := ih q h1; omega
    ·rw [List.mem_singleton] at h1; subst h1; simp
   | some t =>
    intro q hq
    rcases List.mem_append.mp (show q ∈ (readTo ps i).dropLast ++ [(readTo ps i).getLast?.getD [] ++ [t]] from hq) with h1 | h1
    ·have := ih q ((List.dropLast_sublist _).mem h1); omega
    ·rw [List.mem_singleton] at h1
     subst h1
     rw [List.length_append, List.length_singleton]
     cases e : (readTo ps i).getLast? with
     | none => simp
     | some x =>
      have := ih x (List.mem_of_getLast? e)
      show x.length + 1 ≤ _
      omega
  ·have e : readTo ps (i + 1) = readTo ps i := by
    unfold readTo
    rw [List.take_of_length_le (by omega), List.take_of_length_le (by omega)]
   rw [e]
   intro q hq
   have := ih q hq
   omega
theorem tuple_K {X : Cx} (K : W.Frag) (h : X.K = K := by rfl) : CallR X (.type "tuple") (fun xs H Q => ∃ p ys, xs = [.ref p] ∧ ((SqL K H p ys ∧ ∀ l, H l = none → Q (.ref l) (upd H l (.tup ys))) ∨ (SqT K H p ys ∧ Q (.ref p) H))) := by subst h; exact call_tuple_of
section
variable {P : Program} {w : World} {K : W.Frag} {mg : Str → Option Value} {base : Heap}
def spParts : Sp := fun vs H Q _ => ∃ a ps, vs = [.ref a] ∧ H a = some (.lst ((rows ps).map V.str)) ∧ GoodP ps ∧ ∀ v H', Same H H' → IsProg H' v ps → Q v H'
theorem scParts : FnScope ["rows", "parts", "row"] ["rows"] (defScope sPartsOf) := ⟨rfl, rfl, rfl, by decide +kernel, rfl, by decide +kernel, by decide +kernel⟩
theorem ok_Parts {f fT : Addr} {fd fdT : FuncData} (F : Fun K "parts_of" "parts_of" sPartsOf f fd) (B : Bl mg) (T : Tx mg) (GT : FnOk P w K mg base CX0 3 fT fdT ["row"] spToldOf) (kT : W.keepIn K (.ref fT) = true) (bT : Binds K fdT ["row"] []) (mT : mg "told_of" = some (.ref fT)) :
  FnOk P w K mg base CX0 4 f fd ["rows"] spParts := by
 obtain ⟨uH, mH, rH⟩ := T.head
 refine F.ok scParts (fun vs H Q E h => ?_) (fun cdv A outer s H vs Q E hr h => ?_)
 ·obtain ⟨a, ps, rfl, _⟩ := h
  rfl
 ·obtain ⟨a, ps, rfl, ha, hg, k⟩ := h
  refine ⟨_, pss_cons (ps_set (i := 1) scParts.nd rfl (Or.inl rfl) (pe_lst pa_nil))
   (pss_cons (ps_for PassesOwn.never rfl (pi_list (pv 0)) (pg_name (i := 2) scParts.nd rfl (Or.inl rfl))
    (pss_one (ps_if (pt_cmpR op_eq (pv 2) (pe_glob rfl mH rH) (nomark _))
     (pss_one (ps_expr (pe_bm PySem.F.plainAttrs_list PySem.F.slot_list_append PySem.F.type_list_append mt_append (pv 1) (pa_cons (pe_lst pa_nil) pa_nil))))
     (pss_one (ps_if (pt_cmpR op_eq (pe_callB call_len_seq rfl B.len PySem.boot_len (pa_cons (pv 1) pa_nil)) pe_int (nomark _)) (pss_one ps_never)
      (pss_one (ps_expr (pe_bm PySem.F.plainAttrs_list PySem.F.slot_list_append PySem.F.type_list_append mt_append (pe_ix ix_list (pv 1) (pe_un un_neg pe_int) (fun _ _ => rfl)) (pa_cons (pe_call GT hr rfl mT kT bT .nil pass0 (pa_cons (pv 2) pa_nil)) pa_nil)))))))))
   (pss_one (ps_ret (pe_callTy call_tuple_of rfl B.tuple boot_tuple (pa_cons (pe_comp (N := ["part"]) (idx := []) rfl (ScC.of (by kernel_rfl)) (gkeep_name (Nat.zero_le _)) (pi_list (pv 1))
    (fun _ _ _ _ => pg_name (i := 0) nd_part rfl (Or.inl rfl) (.inr rfl)) (fun _ _ _ _ => pts_nil) (fun _ _ _ _ => pe_callTy (tuple_K K) rfl B.tuple boot_tuple (pa_cons (pv 0) pa_nil))) pa_nil))))), ?_⟩
  have hne : ps ≠ [] := by
   intro z
   have := hg.ne
   rw [z] at this
   simp at this
  have hrl : ((rows ps).map V.str).length = (toks ps).length := by unfold rows; simp
  refine ⟨by decide, fun l hl => ?_⟩
  refine ⟨_, rfl, a, rfl, ⟨_, SqL.of (same_new (Same.refl H) hl _ _ ha)⟩, for_list (xs := (rows ps).map V.str) (fun i σ H' => ∃ x, σ = [some (.ref a), some (.ref l), x] ∧ Rd1 H H' l (readTo ps i))
   ⟨none, rfl, same_new (Same.refl H) hl, hl, [], upd_same, .nil, List.nodup_nil, by simp, by simp⟩ (fun i σ H' _ ⟨_, _, r⟩ => SqL.of (r.same _ _ ha)) ?_ ?_⟩
  ·rintro i x σ H1 hx ⟨_, rfl, ⟨s1, _, as, hH, hpr, hnd, hla, hnew⟩⟩
   have hlt : i < (toks ps).length := by
    have := (List.getElem?_eq_some_iff.mp hx).1
    omega
   have ho : (toks ps)[i]? = some (toks ps)[i] := List.getElem?_eq_getElem hlt
   have hgo := hg.toks _ (List.getElem_mem hlt)
   have hal : as.length = (readTo ps i).length := Paired.length hpr
   have hsz := hg.len
   have hrl := readTo_len (ps := ps) i
   have hx2 : x = .str (enc (toks ps)[i]) := by
    unfold rows at hx
    rw [List.getElem?_map, List.getElem?_map, ho] at hx
    cases hx
    rfl
   subst hx2
   have hsu := readTo_succ ho
   generalize (toks ps)[i] = o at ho hgo hsu ⊢
   refine ⟨_, rfl, rfl, _, rfl, ?_⟩
   cases o with
   | none =>
    refine iteD (fun _ => ?_) (fun z => absurd rfl z)
    refine ⟨_, rfl, .inl ⟨rfl, _, SqL.of hH⟩, by decide, fun p hp => ?_⟩
    have hpl : p ≠ l := fun z => by rw [z, hH] at hp; cases hp
    refine ⟨l, as.map V.ref, .ref p, rfl, rfl, by rw [upd_ne (Ne.symm hpl)]; exact hH, small1000 (by rw [List.length_map]; omega), _, rfl, ?_⟩
    have ntp := none_notup hp
    have ntl : ∀ ys, upd H1 p (.lst []) l ≠ some (.tup ys) := lst_notup (by rw [upd_ne (Ne.symm hpl)]; exact hH)
    rw [hsu]
    refine ⟨same_upd (same_new s1 hp) hl, hl, as ++ [p], ?_, ?_, ?_, ?_, ?_⟩
    ·rw [upd_same, List.map_append]; rfl
    ·refine Paired.snoc (Paired.imp_mem hpr fun b hb q hq => ?_) ⟨[], ?_, .nil⟩
     ·have nbl : b ≠ l := fun z => hla (z ▸ hb)
      have nbp : b ≠ p := by
       obtain ⟨_, e, _⟩ := hq
       exact ne_of_none e hp
      exact open_upd (open_upd hq nbp ntp) nbl ntl
     ·rw [upd_ne hpl]; exact upd_same
    ·rw [List.nodup_append]
     refine ⟨hnd, by simp, fun b hb c hc => ?_⟩
     rw [List.mem_singleton] at hc
     subst hc
     intro z
     subst z
     obtain ⟨y, _, _, e, _⟩ := mem_paired hpr hb
     rw [e] at hp; cases hp
    ·intro z
     rcases List.mem_append.mp z with h | h
     ·exact hla h
     ·rw [List.mem_singleton] at h; exact hpl h.symm
    ·intro b hb
     rcases List.mem_append.mp hb with h | h
     ·exact hnew b h
     ·rw [List.mem_singleton] at h
      rw [h]
      exact s1.free hp
   | some t =>
    have gt := hgo t rfl
    refine iteD (fun z => absurd (str_inj z) (row_ne gt)) (fun _ => ?_)
    have hDne := readTo_ne hne ho
    obtain ⟨as0, b, D0, q, eas, eD, hp0, hbq⟩ := Paired.snoc_inv hpr hDne
    refine ⟨_, rfl, l, _, rfl, .inl (SqL.of hH), rfl, _, rfl, iteD (fun z => ?_) (fun _ => ?_)⟩
    ·exfalso
     have z' : V.int ((as.map V.ref).length : Int) = V.int 0 := z
     injection z' with z'
     rw [eas] at z'
     simp at z'
     omega
    have hat : atI (as.map V.ref) (-1) = some (.ref b) := by
     rw [eas, List.map_append]
     exact atI_last _ _
    obtain ⟨tvs, hbv, htv⟩ := id hbq
    refine ⟨_, rfl, _, rfl, l, _, _, _, rfl, rfl, SqL.of hH, hat, .inl ⟨rfl, _, SqL.of hbv⟩, _, rfl, t, _, rfl, gt, fun v H2 s2 hv => ?_⟩
    have hbl : b ≠ l := fun z => hla (by rw [eas, ← z]; simp)
    have hb2 := s2 _ _ hbv
    have hq5 : q.length ≤ i := readTo_part i q (by rw [eD]; simp)
    refine ⟨b, tvs, v, rfl, rfl, hb2, small1000 ?_, _, rfl, ?_⟩
    ·have := Paired.length htv
     omega
    rw [hsu, eD]
    have eP : put1 (D0 ++ [q]) (some t) = D0 ++ [q ++ [t]] := by simp [put1]
    rw [eP]
    have ntb := lst_notup hb2
    refine ⟨same_upd (s1.trans s2) (hnew b (by rw [eas]; simp)), hl, as, ?_, ?_, hnd, hla, hnew⟩
    ·rw [upd_ne (Ne.symm hbl)]; exact s2 _ _ hH
    ·rw [eas]
     refine Paired.snoc (Paired.imp_mem hp0 fun c hc q' hq' => ?_) ⟨tvs ++ [v], upd_same, ?_⟩
     ·have ncb : c ≠ b := by
       rw [eas, List.nodup_append] at hnd
       exact hnd.2.2 c hc b (by simp)
      exact open_upd (hq'.same s2) ncb ntb
     ·exact Paired.snoc (Paired.mapP htv fun _ _ q => told_upd (q.same s2) ntb) (told_upd hv ntb)
  ·rintro σ H1 ⟨x, rfl, ⟨s1, _, as, hH, hpr, hnd, hla, hnew⟩⟩
   rw [hrl, readTo_all] at hpr
   have hal : as.length = ps.length := Paired.length hpr
   have hle := hg.le
   refine ⟨_, rfl, l, rfl, ⟨_, SqL.of hH⟩, ?_⟩
   refine compW_of (n := as.length) (fun i ys H' => Same H1 H' ∧ i ≤ as.length ∧ Paired (IsPart H') ys (ps.take i)) ?_ ?_ ?_ ?_ ?_ ?_ ?_
   ·exact Nat.le_of_lt (small1000 (by omega))
   ·exact ⟨Same.refl _, Nat.zero_le _, .nil⟩
   ·rintro i ys H' ⟨_, _, e⟩
    rw [Paired.length e, List.length_take]
    omega
   ·rintro i ys H' hi ⟨s2, _, _⟩
    exact ⟨_, .ref as[i], SqL.of (s2 _ _ hH), by rw [List.getElem?_map, List.getElem?_eq_getElem hi]; rfl⟩
   ·rintro ys H' ⟨s2, _, _⟩
    exact ⟨_, SqL.of (s2 _ _ hH), by rw [List.length_map]; exact Nat.le_refl _⟩
   ·rintro i ys H' hi ⟨s2, _, e⟩ y H'' ⟨eH, hy1⟩
    subst eH
    have hy := hy1 _ (SqL.of (s2 _ _ hH))
    rw [List.getElem?_map, List.getElem?_eq_getElem hi] at hy
    cases hy
    obtain ⟨q, hq, tvs, hbv, htv⟩ := Paired.at' hpr (List.getElem?_eq_getElem hi)
    refine ⟨_, rfl, as[i], tvs, rfl, .inl ⟨SqL.of (s2 _ _ hbv), fun r hr0 => ⟨same_new s2 hr0, hi, ?_⟩⟩⟩
    rw [List.take_add_one, hq]
    exact Paired.snoc (Paired.mapP e fun _ _ z => z.same (same_new (Same.refl _) hr0)) ⟨r, tvs, rfl, upd_same, Paired.mapP htv fun _ _ z => z.same (same_new s2 hr0)⟩
   ·rintro ys H' ⟨s2, _, e⟩
    rw [hal, List.take_of_length_le (Nat.le_refl _)] at e
    refine ⟨by rw [Paired.length e]; exact Nat.le_of_lt (small1000 (by omega)), fun r hr0 => ?_⟩
    refine ⟨r, ys, rfl, .inl ⟨SqL.of upd_same, fun q hq => ?_⟩⟩
    have s3 := same_new (o := .lst ys) (Same.refl H') hr0
    have s4 := same_new (o := .tup ys) s3 hq
    exact k _ _ ((s1.trans s2).trans s4) ⟨q, ys, rfl, upd_same, Paired.mapP e fun _ _ z => z.same s4⟩
end
end TL
namespace TL
open PySem PySem.Spec PyProof.Rows PySem.SeqAt L2 L3 L4
theorem b_put : boundsM "put" = some [4, TOPi] := by unfold boundsM; rw [if_pos rfl]
theorem b_add : boundsM "add" = some [4, 4] := by unfold boundsM; rw [if_neg (by decide +kernel), if_pos rfl]
theorem b_set : boundsM "set" = some [12, 4] := by unfold boundsM; rw [if_neg (by decide +kernel), if_neg (by decide +kernel), if_pos rfl]
theorem b_look : boundsM "look" = some [4, 12] := by unfold boundsM; rw [if_neg (by decide +kernel), if_neg (by decide +kernel), if_neg (by decide +kernel), if_pos rfl]
theorem b_swap : boundsM "swap" = some [4, 12] := by unfold boundsM; rw [if_neg (by decide +kernel), if_neg (by decide +kernel), if_neg (by decide +kernel), if_neg (by decide +kernel), if_pos rfl]
theorem b_clear : boundsM "clear" = some [] := by unfold boundsM; rw [if_neg (by decide +kernel), if_neg (by decide +kernel), if_neg (by decide +kernel), if_neg (by decide +kernel), if_neg (by decide +kernel), if_pos rfl]
theorem b_skip : boundsM "skip" = some [4, 121] := by unfold boundsM; rw [if_neg (by decide +kernel), if_neg (by decide +kernel), if_neg (by decide +kernel), if_neg (by decide +kernel), if_neg (by decide +kernel), if_neg (by decide +kernel), if_pos rfl]
theorem step2 {x : Str} {a b : Nat} {u v : Int} (e : boundsM x = some [u, v]) (h1 : (a : Int) < u) (h2 : (b : Int) < v) : stepOk [.str x, .int a, .int b] = true := by
 show (match boundsM x with | none => false | some bs => decide ([V.int a, V.int b].length = bs.length) && ([V.int a, V.int b].zip bs).all fun p => wIn p.1 p.2) = true
 rw [e]
 show (decide (2 = 2) && ((decide (0 ≤ (a : Int)) && decide ((a : Int) < u)) && ((decide (0 ≤ (b : Int)) && decide ((b : Int) < v)) && true))) = true
 rw [decide_eq_true h1, decide_eq_true h2, decide_eq_true (Int.natCast_nonneg a), decide_eq_true (Int.natCast_nonneg b)]
 rfl
theorem top_lt {m : Nat} (h : m < 10 ^ 60) : (m : Int) < TOPi := by
 have e : ((10 ^ 60 : Nat) : Int) = TOPi := by decide +kernel
 rw [← e]
 exact Int.ofNat_lt.mpr h
theorem good_step {sz : Nat} {t : Tl} (g : GoodT sz t) : stepOk (tv t) = true := by
 cases g with
 | put r m h1 h2 => exact step2 b_put (by omega) (top_lt h2)
 | add r m h1 h2 => exact step2 b_add (by omega) (by omega)
 | set r m h1 h2 => exact step2 b_set (by omega) (by omega)
 | look r m h1 h2 => exact step2 b_look (by omega) (by omega)
 | swap r m h1 h2 => exact step2 b_swap (by omega) (by omega)
 | clear =>
  show (match boundsM "clear" with | none => false | some bs => decide (([] : List V).length = bs.length) && (([] : List V).zip bs).all fun p => wIn p.1 p.2) = true
  rw [b_clear]
  rfl
 | skip r m h1 h2 h3 => exact step2 b_skip (by omega) (by omega)
theorem words_strOk : ∀ w ∈ words7, PyData.strOk w = true := by unfold words7; decide +kernel
theorem IsTold.told {H : Hp} {v : V} {t : Tl} {sz : Nat} (h : IsTold H v t) (g : GoodT sz t) : Told H v := by
 obtain ⟨a, rfl, ha⟩ := h
 refine told_tup ha ?_ ?_
 ·rw [tv_len]; have := words_len g; omega
 ·intro x hx
  rcases List.mem_cons.mp hx with e | h1
  ·subst e; exact words_strOk _ g.word
  ·obtain ⟨n, _, rfl⟩ := List.mem_map.mp h1
   rfl
theorem IsTold.fits {H : Hp} {v : V} {t : Tl} {sz i : Nat} (h : IsTold H v t) (g : GoodT sz t) (hi : i < 120) : fitsM H v i sz = true := by
 obtain ⟨a, rfl, ha⟩ := h
 unfold fitsM isStep skipFar
 rw [viewT_of ha]
 show (stepOk (tv t) && _) = true
 rw [good_step g, decide_eq_true (show (i : Int) < 120 by omega), Bool.true_and, Bool.and_true]
 cases g with
 | skip r q h1 h2 h3 =>
  show (!(decide ((("skip" : Str)) = "skip") && decide ((sz : Int) < (q : Int)))) = true
  rw [decide_eq_false (show ¬ (sz : Int) < (q : Int) by omega), Bool.and_false]
  rfl
 | clear => rfl
 | put r m _ _ => show (!(decide ((("put" : Str)) = "skip") && _)) = true; rw [decide_eq_false (by decide +kernel)]; rfl
 | add r m _ _ => show (!(decide ((("add" : Str)) = "skip") && _)) = true; rw [decide_eq_false (by decide +kernel)]; rfl
 | set r m _ _ => show (!(decide ((("set" : Str)) = "skip") && _)) = true; rw [decide_eq_false (by decide +kernel)]; rfl
 | look r m _ _ => show (!(decide ((("look" : Str)) = "skip") && _)) = true; rw [decide_eq_false (by decide +kernel)]; rfl
 | swap r m _ _ => show (!(decide ((("swap" : Str)) = "skip") && _)) = true; rw [decide_eq_false (by decide +kernel)]; rfl
theorem badIn_good {H : Hp} {sz : Nat} : ∀ {vs : List V} {p : Pt} {c : Nat}, Paired (IsTold H) vs p → (∀ t ∈ p, GoodT sz t) → c + vs.length ≤ 120 → badIn H sz c vs = none
 | _, _, _, .nil, _, _ => rfl
 | _, _, c, .cons h t, g, hc => by
  rw [List.length_cons] at hc
  show (if fitsM H _ c sz = true then badIn H sz (c + 1) _ else some c) = none
  rw [if_pos (h.fits (g _ (by simp)) (by omega))]
  exact badIn_good t (fun t ht => g t (List.mem_cons_of_mem _ ht)) (by omega)
theorem IsPart.view {H : Hp} {v : V} {p : Pt} (h : IsPart H v p) : ∃ vs, viewT H v = some vs ∧ Paired (IsTold H) vs p := by
 obtain ⟨a, vs, rfl, ha, r⟩ := h
 exact ⟨vs, viewT_of ha, r⟩
theorem firstBad_good {H : Hp} : ∀ {vs : List V} {ps : List Pt} {c : Nat}, Paired (IsPart H) vs ps → (∀ p ∈ ps, p.length ≤ 120 ∧ ∀ t ∈ p, GoodT p.length t) → firstBad H c vs = none
 | _, _, _, .nil, _ => rfl
 | x :: xs, p :: ps, c, .cons h t, g => by
  obtain ⟨us, hv, r⟩ := h.view
  obtain ⟨g1, g2⟩ := g _ (List.mem_cons_self ..)
  have hl := Paired.length r
  unfold firstBad
  have e : partV H x = us := by unfold partV; rw [hv]; rfl
  rw [e, hl, badIn_good r g2 (by omega)]
  exact firstBad_good t fun p hp => g p (List.mem_cons_of_mem _ hp)
theorem prog_look {H : Hp} {v : V} {ps : List Pt} (h : IsProg H v ps) (g : GoodP ps) : Prog2 H v ∧ hasM H v = true ∧ ∀ xs, viewT H v = some xs → firstBad H 0 xs = none := by
 obtain ⟨a, vs, rfl, ha, r⟩ := h
 have hl := Paired.length r
 have g1 := g.le
 have g2 := g.ne
 refine ⟨⟨⟨_, tyName_tup ha⟩, fun xs e => ?_⟩, ?_, fun xs e => ?_⟩
 ·rw [viewT_of ha] at e
  cases e
  refine ⟨by omega, fun x hx => ?_⟩
  obtain ⟨p, hp, b, us, rfl, hb, q⟩ := mem_paired r hx
  obtain ⟨g3, g4⟩ := g.part p hp
  have hl2 := Paired.length q
  refine ⟨⟨_, tyName_tup hb⟩, fun ys e => ?_⟩
  rw [viewT_of hb] at e
  cases e
  refine ⟨by omega, fun y hy => ?_⟩
  obtain ⟨t, ht, hty⟩ := mem_paired q hy
  exact hty.told (g4 t ht)
 ·unfold hasM
  rw [viewT_of ha]
  show ((decide (1 ≤ vs.length) && decide (vs.length ≤ 4)) && vs.all fun x => (viewT H x).isSome) = true
  rw [decide_eq_true (by omega), decide_eq_true (by omega), Bool.true_and, Bool.true_and, List.all_eq_true]
  intro x hx
  obtain ⟨p, hp, hq⟩ := mem_paired r hx
  obtain ⟨us, e, _⟩ := hq.view
  rw [e]
  rfl
 ·rw [viewT_of ha] at e
  cases e
  exact firstBad_good r g.part
section
variable {P : Program} {w : World} {K : PySem.W.Frag} {mg : Str → Option Value} {base : Heap}
def spRead : Sp := fun vs H Q _ => ∃ ps, vs = [.str (textS ps)] ∧ GoodP ps ∧ ∀ v H', Same H H' → IsProg H' v ps → Q v H'
theorem scRead : FnScope ["text", "program"] ["text"] (defScope sReadP) := ⟨rfl, rfl, rfl, by decide +kernel, rfl, by decide +kernel, by decide +kernel⟩
theorem ok_Read {f fP fL cC cP : Addr} {fd fdP fdL : FuncData} (F : Fun K "read_program" "read_program" sReadP f fd) (B : Bl mg) (GP : FnOk P w K mg base CX0 4 fP fdP ["rows"] spParts) (kP : PySem.W.keepIn K (.ref fP) = true) (bP : Binds K fdP ["rows"] []) (mP : mg "parts_of" = some (.ref fP))
  (GL : FnOk P w K mg base (CXE P w) 6 fL fdL ["program"] (spLook cC cP)) (kL : PySem.W.keepIn K (.ref fL) = true) (bL : Binds K fdL ["program"] []) (mL : mg "look_over" = some (.ref fL)) :
  FnOk P w K mg base CX0 7 f fd ["text"] spRead := by
 refine F.ok scRead (fun vs H Q E h => ?_) (fun cdv A outer s H vs Q E hr h => ?_)
 ·obtain ⟨ps, rfl, _⟩ := h
  rfl
 ·obtain ⟨ps, rfl, hg, k⟩ := h
  refine ⟨_, pss_cons (ps_if (pt_not (pt_val (pe_callB call_isi rfl B.isi boot_isinstance (pa_cons (pv 0) (pa_cons (pe_bltn (v := .ty "str") rfl B.str boot_str rfl) pa_nil))))) (pss_one ps_never) pss_nil)
   (pss_cons (ps_set (i := 1) scRead.nd rfl (Or.inl rfl) (pe_call GP (hr.mono (by decide)) rfl mP kP bP .nil pass0 (pa_cons (pe_bm PySem.F.plainAttrs_str PySem.F.slot_str_split PySem.F.type_str_split mt_split (pv 0) (pa_cons pe_str pa_nil)) pa_nil)))
   (pss_cons (ps_tryN (fun W pn E hL hp => pss_one (ps_expr (pe_callX GL hr hL rfl mL kL bL .nil (pa_cons (pv 1) pa_nil)))))
   (pss_one (ps_ret (pv 1))))), ?_⟩
  have hT : tyName H (.str (textS ps)) = some "str" := rfl
  have hl := text_len hg
  refine ⟨_, rfl, _, _, _, _, _, rfl, tyT hT, rfl, kitU hT (by decide), _, rfl, iteF ?_⟩
  refine ⟨_, rfl, rfl, _, _, rfl, rfl, by rw [nl10]; rfl, by omega, fun p hp => ?_⟩
  rw [nl10, text_split hg]
  refine ⟨p, ps, rfl, upd_same, hg, fun v H1 s1 hv => ?_⟩
  have s0 : Same H H1 := (same_new (Same.refl H) hp).trans s1
  obtain ⟨l1, l2, l3⟩ := prog_look hv hg
  refine ⟨_, rfl, v, rfl, l1, fun z => (by rw [l2] at z; cases z), fun _ xs e => ⟨fun _ H2 s2 => ?_, fun c p z => (by rw [l3 xs e] at z; cases z)⟩⟩
  exact ⟨_, rfl, k v H2 (s0.trans s2) (hv.same s2)⟩
end
end TL
namespace L4
open PySem PySem.Builtin PySem.Builtin.Str
def Asc (x : Str) : Prop := ∀ c ∈ x.cps.toList, c < 128
def dig (c : Nat) : Bool := decide (48 ≤ c) && decide (c ≤ 57)
theorem dig_iff {c : Nat} : dig c = true ↔ 48 ≤ c ∧ c ≤ 57 := by unfold dig; rw [Bool.and_eq_true, decide_eq_true_eq, decide_eq_true_eq]
def isNum (x : Str) : Bool := (decide (1 ≤ x.length) && decide (x.length ≤ 60)) && (!(decide (x.cps.toList.head? = some 48) && decide (1 < x.length)) && x.cps.toList.all dig)
def valS (x : Str) : Nat := NumText.digitsVal x.cps.toList
theorem val_snoc (l : List Nat) (d : Nat) : NumText.digitsVal (l ++ [d]) = NumText.digitsVal l * 10 + (d - 48) := by
 unfold NumText.digitsVal
 rw [List.foldl_append]
 rfl
theorem val_ge (l : List Nat) (a : Nat) : ∀ acc, acc ≤ l.foldl (fun acc c => acc * 10 + (c - 48)) acc := by
 induction l with
 | nil => intro acc; exact Nat.le_refl _
 | cons c l ih =>
  intro acc
  rw [List.foldl_cons]
  exact Nat.le_trans (by omega) (ih _)
theorem val_pos {c : Nat} {l : List Nat} (h : 49 ≤ c) : 1 ≤ NumText.digitsVal (c :: l) := by
 unfold NumText.digitsVal
 rw [List.foldl_cons]
 exact Nat.le_trans (by omega) (val_ge l 0 _)
theorem figs_back : ∀ (n : Nat) (l : List Nat), l.length = n → l ≠ [] → (∀ c ∈ l, 48 ≤ c ∧ c ≤ 57) → (l.head? = some 48 → l.length = 1) → figs (NumText.digitsVal l) = l := by
 intro n
 induction n with
 | zero =>
  intro l hl hne
  exact absurd (List.length_eq_zero_iff.mp hl) hne
 | succ n ih =>
  intro l hl hne hd hh
  obtain ⟨m, d, rfl⟩ : ∃ m d, l = m ++ [d] := ⟨l.dropLast, l.getLast hne, (List.dropLast_concat_getLast hne).symm⟩
  have hdd := hd d (by simp)
  rw [val_snoc]
  cases m with
  | nil =>
   rw [figs_if]
   have e : NumText.digitsVal [] = 0 := rfl
   rw [e, if_pos (by omega)]
   show [_] = [d]
   congr 1
   omega
  | cons c m =>
   have hc := hd c (by simp)
   have hc2 : 49 ≤ c := by
    by_cases e : c = 48
    ·have := hh (by rw [e]; rfl)
     simp at this
    ·omega
   have hp := val_pos (l := m) hc2
   rw [figs_if, if_neg (by omega)]
   have e1 : (NumText.digitsVal (c :: m) * 10 + (d - 48)) / 10 = NumText.digitsVal (c :: m) := by omega
   have e2 : 48 + (NumText.digitsVal (c :: m) * 10 + (d - 48)) % 10 = d := by omega
   rw [e1, e2, ih (c :: m) (by simp at hl ⊢; omega) (by simp) (fun x hx => hd x (List.mem_append_left _ hx)) (fun e => by simp at e; omega)]
theorem figs_lt {n k : Nat} (h : (figs n).length ≤ k) (hk : 0 < k) : n < 10 ^ k := by
 unfold figs at h
 rw [List.length_map] at h
 exact (Nat.length_toDigits_le_iff (by decide) hk).mp h
theorem len_toList (x : Str) : x.cps.toList.length = x.length := Array.length_toList
theorem isNum_num {x : Str} (h : isNum x = true) : x = numS (valS x) ∧ valS x < 10 ^ 60 := by
 unfold isNum at h
 rw [Bool.and_eq_true, Bool.and_eq_true, Bool.and_eq_true, decide_eq_true_eq, decide_eq_true_eq, List.all_eq_true] at h
 obtain ⟨⟨h1, h2⟩, h3, h4⟩ := h
 have hl := len_toList x
 have e : figs (valS x) = x.cps.toList := by
  refine figs_back _ _ rfl (fun z => ?_) (fun c hc => dig_iff.mp (h4 c hc)) (fun z => ?_)
  ·rw [z] at hl; simp at hl; omega
  ·rw [decide_eq_true z, Bool.true_and, Bool.not_eq_true', decide_eq_false_iff_not] at h3
   omega
 have e2 : x = numS (valS x) := str_ext (by rw [numS_signs, e])
 exact ⟨e2, figs_lt (by rw [e, hl]; exact h2) (by decide)⟩
theorem num_isNum {n : Nat} (h : n < 10 ^ 60) : isNum (numS n) = true := by
 have h1 := figs_ne n
 have h2 := figs_len h (by decide)
 have hl := numS_len n
 unfold isNum
 rw [numS_signs]
 rw [Bool.and_eq_true, Bool.and_eq_true, Bool.and_eq_true, decide_eq_true_eq, decide_eq_true_eq, List.all_eq_true]
 refine ⟨⟨?_, by omega⟩, ?_, fun c hc => dig_iff.mpr (figs_ok n c hc)⟩
 ·have : 0 < (figs n).length := List.length_pos_iff.mpr h1
  omega
 ·by_cases e : (figs n).head? = some 48
  ·have z := figs_head n e
   subst z
   decide +kernel
  ·rw [decide_eq_false e]; rfl
theorem val_num (n : Nat) : valS (numS n) = n := by
 unfold valS
 rw [numS_signs]
 exact figs_val n
theorem isDigit_asc : ∀ c, c < 128 → Unicode.isDigit c = dig c := by decide +kernel
theorem all_same {α : Type} {f g : α → Bool} : ∀ {l : List α}, (∀ x ∈ l, f x = g x) → l.all f = l.all g
 | [], _ => rfl
 | x :: r, h => by rw [List.all_cons, List.all_cons, h x List.mem_cons_self, all_same fun y hy => h y (List.mem_cons_of_mem _ hy)]
theorem isdigit_of {x : Str} (ha : Asc x) : Txt.isdigit x = (decide (0 < x.length) && x.cps.toList.all dig) := by
 unfold Txt.isdigit
 rw [← Array.all_toList, all_same fun c hc => isDigit_asc c (ha c hc)]
def lword (x : Str) (L : Int) : Bool := Txt.isdigit x && (decide (x.length ≤ 60) && (decide (numS (valS x) = x) && decide ((valS x : Int) < L)))
theorem lword_iff {x : Str} {L : Int} (ha : Asc x) : lword x L = true ↔ ∃ n : Nat, x = numS n ∧ (n : Int) < L ∧ n < 10 ^ 60 := by
 unfold lword
 constructor
 ·intro h
  rw [Bool.and_eq_true, Bool.and_eq_true, Bool.and_eq_true, decide_eq_true_eq, decide_eq_true_eq, decide_eq_true_eq] at h
  obtain ⟨h1, h2, h3, h4⟩ := h
  refine ⟨valS x, h3.symm, h4, figs_lt (k := 60) ?_ (by decide)⟩
  rw [← numS_len, h3]
  exact h2
 ·rintro ⟨n, rfl, h1, h2⟩
  have hl := figs_len h2 (by decide)
  have hne := figs_ne n
  rw [isdigit_of ha, val_num, numS_len, numS_signs, decide_eq_true hl, decide_eq_true h1, decide_eq_true rfl, List.all_eq_true.mpr fun c hc => dig_iff.mpr (figs_ok n c hc), decide_eq_true (List.length_pos_iff.mpr hne)]
  rfl
theorem split_mem {x w : Str} {c : Nat} (h : w ∈ Txt.split x (one c)) : (∀ d ∈ w.cps.toList, d ∈ x.cps.toList) ∧ c ∉ w.cps.toList := by
 refine ⟨?_, StrLaws.split_free _ c w h⟩
 have e := split_glued x (one c)
 have e2 : x.cps.toList = jl c ((Txt.split x (one c)).map (·.cps.toList)) := by rw [← join_signs, e]
 have go : ∀ (ws : List (List Nat)) (w : List Nat), w ∈ ws → ∀ d ∈ w, d ∈ jl c ws := by
  intro ws
  induction ws with
  | nil => intro w hw; cases hw
  | cons a r ih =>
   intro w hw d hd
   cases r with
   | nil =>
    rw [List.mem_singleton.mp hw] at hd
    exact hd
   | cons b r =>
    show d ∈ a ++ c :: jl c (b :: r)
    rcases List.mem_cons.mp hw with z | z
    ·rw [z] at hd
     exact List.mem_append_left _ hd
    ·exact List.mem_append_right _ (List.mem_cons_of_mem _ (ih w z d hd))
 intro d hd
 rw [e2]
 exact go _ _ (List.mem_map.mpr ⟨w, h, rfl⟩) d hd
theorem split_asc {x w : Str} {c : Nat} (ha : Asc x) (h : w ∈ Txt.split x (one c)) : Asc w := fun d hd => ha d ((split_mem h).1 d hd)
theorem jl_len {c : Nat} : ∀ (ws : List (List Nat)), (∀ w ∈ ws, w.length + 1 ≤ (jl c ws).length + 1) ∧ ws.length ≤ (jl c ws).length + 1
 | [] => ⟨fun _ h => (by cases h), by simp⟩
 | [x] => ⟨fun w h => by rw [List.mem_singleton.mp h]; exact Nat.le_refl _, by simp⟩
 | x :: y :: r => by
  obtain ⟨h1, h2⟩ := jl_len (c := c) (y :: r)
  have e : (jl c (x :: y :: r)).length = x.length + ((jl c (y :: r)).length + 1) := by
   show (x ++ c :: jl c (y :: r)).length = _
   rw [List.length_append, List.length_cons]
  refine ⟨fun w hw => ?_, ?_⟩
  ·rcases List.mem_cons.mp hw with z | z
   ·rw [z, e]; omega
   ·have := h1 w z
    rw [e]; omega
  ·rw [List.length_cons, e]; omega
theorem split_few (x : Str) (c : Nat) : (∀ w ∈ Txt.split x (one c), w.length ≤ x.length) ∧ (Txt.split x (one c)).length ≤ x.length + 1 := by
 have e := split_glued x (one c)
 have e2 : x.cps.toList = jl c ((Txt.split x (one c)).map (·.cps.toList)) := by rw [← join_signs, e]
 obtain ⟨h1, h2⟩ := jl_len (c := c) ((Txt.split x (one c)).map (·.cps.toList))
 rw [← e2, len_toList] at h1 h2
 refine ⟨fun w hw => ?_, by rw [List.length_map] at h2; exact h2⟩
 have := h1 _ (List.mem_map.mpr ⟨w, hw, rfl⟩)
 rw [len_toList] at this
 omega
def put1R (D : List (List Str)) (r : Str) : Option (List (List Str)) :=
 if r = ("clerk" : Str) then some (D ++ [[]]) else if D = [] then none else some (D.dropLast ++ [D.getLast?.getD [] ++ [r]])
def partsTo (rs : List Str) : Option (List (List Str)) := rs.foldl (fun o r => o.bind (put1R · r)) (some [])
theorem partsTo_snoc (rs : List Str) (r : Str) : partsTo (rs ++ [r]) = (partsTo rs).bind (put1R · r) := by
 unfold partsTo
 rw [List.foldl_append]
 rfl
theorem fold_none (rs : List Str) : rs.foldl (fun o r => o.bind (put1R · r)) none = none := by
 induction rs with
 | nil => rfl
 | cons r rs ih => exact ih
theorem partsTo_none {rs : List Str} {i : Nat} (h : partsTo (rs.take i) = none) : partsTo rs = none := by
 have e : rs = rs.take i ++ rs.drop i := (List.take_append_drop i rs).symm
 rw [e]
 unfold partsTo at h ⊢
 rw [List.foldl_append, h, fold_none]
theorem partsTo_succ {rs : List Str} {i : Nat} {r : Str} (h : rs[i]? = some r) : partsTo (rs.take (i + 1)) = (partsTo (rs.take i)).bind (put1R · r) := by
 rw [List.take_add_one, h]
 exact partsTo_snoc _ _
def flatR (D : List (List Str)) : List Str := D.flatMap fun p => ("clerk" : Str) :: p
theorem flat_app (a b : List (List Str)) : flatR (a ++ b) = flatR a ++ flatR b := by unfold flatR; rw [List.flatMap_append]
theorem list_snoc {α : Type} {l : List α} (h : l ≠ []) : ∃ m a, l = m ++ [a] := ⟨l.dropLast, l.getLast h, (List.dropLast_concat_getLast h).symm⟩
theorem partsTo_flat : ∀ (n : Nat) (rs : List Str) (D : List (List Str)), rs.length = n → partsTo rs = some D → rs = flatR D ∧ D.length ≤ n ∧ ∀ p ∈ D, p.length ≤ n ∧ ∀ r ∈ p, r ∈ rs ∧ r ≠ ("clerk" : Str) := by
 intro n
 induction n with
 | zero =>
  intro rs D hl h
  rw [List.length_eq_zero_iff.mp hl] at h ⊢
  cases h
  exact ⟨rfl, by simp, fun p hp => by cases hp⟩
 | succ n ih =>
  intro rs D hl h
  obtain ⟨ms, r, rfl⟩ := list_snoc (l := rs) (by intro z; rw [z] at hl; cases hl)
  rw [partsTo_snoc] at h
  cases e : partsTo ms with
  | none => rw [e] at h; cases h
  | some D0 =>
   rw [e] at h
   obtain ⟨h1, h2, h3⟩ := ih ms D0 (by simp at hl; exact hl) e
   have h' : put1R D0 r = some D := h
   unfold put1R at h'
   split at h'
   ·rename_i hc
    cases h'
    refine ⟨by rw [flat_app, ← h1, hc]; rfl, by simp; omega, fun p hp => ?_⟩
    rcases List.mem_append.mp hp with z | z
    ·obtain ⟨a, b⟩ := h3 p z
     exact ⟨by omega, fun r' hr => ⟨List.mem_append_left _ (b r' hr).1, (b r' hr).2⟩⟩
    ·rw [List.mem_singleton.mp z]
     exact ⟨by simp, fun r' hr => by cases hr⟩
   ·rename_i hc
    split at h'
    ·cases h'
    ·rename_i hne
     cases h'
     obtain ⟨D1, p, rfl⟩ := list_snoc hne
     have eD : (D1 ++ [p]).dropLast ++ [(D1 ++ [p]).getLast?.getD [] ++ [r]] = D1 ++ [p ++ [r]] := by simp
     rw [eD]
     refine ⟨?_, ?_, fun q hq => ?_⟩
     ·rw [h1, flat_app, flat_app]
      unfold flatR
      simp
     ·simp at h2 ⊢; omega
     ·rcases List.mem_append.mp hq with z | z
      ·obtain ⟨a, b⟩ := h3 q (List.mem_append_left _ z)
       exact ⟨by omega, fun r' hr => ⟨List.mem_append_left _ (b r' hr).1, (b r' hr).2⟩⟩
      ·rw [List.mem_singleton.mp z]
       obtain ⟨a, b⟩ := h3 p (by simp)
       refine ⟨by simp; omega, fun r' hr => ?_⟩
       rcases List.mem_append.mp hr with y | y
       ·exact ⟨List.mem_append_left _ (b r' y).1, (b r' y).2⟩
       ·rw [List.mem_singleton.mp y]
        exact ⟨by simp, hc⟩
theorem partsTo_part : ∀ (p q : List Str) (D : List (List Str)), (∀ r ∈ p, r ≠ ("clerk" : Str)) → p.foldl (fun o r => o.bind (put1R · r)) (some (D ++ [q])) = some (D ++ [q ++ p])
 | [], q, D, _ => by simp
 | r :: p, q, D, h => by
  rw [List.foldl_cons]
  have e : (some (D ++ [q])).bind (put1R · r) = some (D ++ [q ++ [r]]) := by
   show put1R (D ++ [q]) r = _
   unfold put1R
   rw [if_neg (h r (by simp)), if_neg (by simp)]
   simp
  rw [e, partsTo_part p (q ++ [r]) D fun x hx => h x (List.mem_cons_of_mem _ hx)]
  simp
theorem partsTo_of : ∀ (D E : List (List Str)), (∀ p ∈ D, ∀ r ∈ p, r ≠ ("clerk" : Str)) → (flatR D).foldl (fun o r => o.bind (put1R · r)) (some E) = some (E ++ D)
 | [], E, _ => by simp [flatR]
 | p :: D, E, h => by
  have e : flatR (p :: D) = ("clerk" : Str) :: p ++ flatR D := rfl
  rw [e, List.cons_append, List.foldl_cons, List.foldl_append]
  have e2 : (some E).bind (put1R · ("clerk" : Str)) = some (E ++ [[]]) := by
   show put1R E _ = _
   unfold put1R
   rw [if_pos rfl]
  rw [e2, partsTo_part p [] E (h p (by simp)), partsTo_of D _ fun q hq => h q (List.mem_cons_of_mem _ hq)]
  simp
theorem rows_flat (ps : List Pt) : rows ps = flatR (ps.map (·.map rowS)) := by
 unfold rows
 induction ps with
 | nil => rfl
 | cons p ps ih =>
  show (none :: p.map some ++ toks ps).map enc = (("clerk" : Str) :: p.map rowS) ++ flatR (ps.map (·.map rowS))
  rw [← ih, List.map_append, List.map_cons, List.map_map]
  rfl
end L4
namespace L4
open PySem PySem.Builtin PySem.Builtin.Str L2 L3 TL
def wordV (x : Str) : V := if isNum x = true then .int (valS x : Nat) else .non
def toldW : List Str → List V
 | [] => []
 | w :: ws => .str w :: ws.map wordV
def toldR (r : Str) : List V := toldW (Txt.split r (one 32))
def farV (n : Int) : List V → Bool
 | [.str x, _, .int q] => decide (x = "skip") && decide (n < q)
 | _ => false
def fitR (n i : Int) (r : Str) : Bool := stepOk (toldR r) && (!farV n (toldR r) && decide (i < 120))
theorem row_back (r : Str) : r = Txt.join (one 32) (Txt.split r (one 32)) := by
 rw [show Txt.join (one 32) (Txt.split r (one 32)) = Str.join (one 32) (Txt.split r (one 32)) from StrLaws.glued_eq_join _ _]
 exact (split_glued r (one 32)).symm
theorem wordV_in {x : Str} {u : Int} (h : wIn (wordV x) u = true) : ∃ n : Nat, x = numS n ∧ (n : Int) < u ∧ n < 10 ^ 60 := by
 unfold wordV at h
 split at h
 ·rename_i hn
  obtain ⟨e, hl⟩ := isNum_num hn
  have h' : (decide (0 ≤ ((valS x : Nat) : Int)) && decide (((valS x : Nat) : Int) < u)) = true := h
  rw [Bool.and_eq_true, decide_eq_true_eq, decide_eq_true_eq] at h'
  exact ⟨valS x, e, h'.2, hl⟩
 ·cases h
theorem row_of2 {r w a b : Str} {m n : Nat} (h : Txt.split r (one 32) = [w, a, b]) (ha : a = numS m) (hb : b = numS n) : r = rowS (w, [m, n]) := by
 rw [row_back r, h, ha, hb]
 rfl
theorem row_of0 {r w : Str} (h : Txt.split r (one 32) = [w]) : r = rowS (w, []) := by
 rw [row_back r, h]
 rfl
theorem two_list {α : Type} {l : List α} (h : l.length = 2) : ∃ a b, l = [a, b] := by
 match l, h with
 | [a, b], _ => exact ⟨a, b, rfl⟩
theorem bounds_two {x : Str} {bs : List Int} (h : boundsM x = some bs) : (x = "put" ∧ bs = [4, TOPi]) ∨ (x = "add" ∧ bs = [4, 4]) ∨ (x = "set" ∧ bs = [12, 4]) ∨ (x = "look" ∧ bs = [4, 12]) ∨ (x = "swap" ∧ bs = [4, 12]) ∨ (x = "clear" ∧ bs = []) ∨ (x = "skip" ∧ bs = [4, 121]) := by
 unfold boundsM at h
 split at h
 ·rename_i e; cases h; exact .inl ⟨e, rfl⟩
 split at h
 ·rename_i e; cases h; exact .inr (.inl ⟨e, rfl⟩)
 split at h
 ·rename_i e; cases h; exact .inr (.inr (.inl ⟨e, rfl⟩))
 split at h
 ·rename_i e; cases h; exact .inr (.inr (.inr (.inl ⟨e, rfl⟩)))
 split at h
 ·rename_i e; cases h; exact .inr (.inr (.inr (.inr (.inl ⟨e, rfl⟩))))
 split at h
 ·rename_i e; cases h; exact .inr (.inr (.inr (.inr (.inr (.inl ⟨e, rfl⟩)))))
 split at h
 ·rename_i e; cases h; exact .inr (.inr (.inr (.inr (.inr (.inr ⟨e, rfl⟩)))))
 ·cases h
theorem fit_good {n : Nat} {i : Int} {r : Str} (h : fitR n i r = true) : ∃ t, r = rowS t ∧ GoodT n t := by
 unfold fitR at h
 rw [Bool.and_eq_true, Bool.and_eq_true] at h
 obtain ⟨h1, h2, _⟩ := h
 unfold toldR at h1 h2
 cases es : Txt.split r (one 32) with
 | nil => exact absurd es (split_ne _ _)
 | cons w ws =>
  rw [es] at h1 h2
  have h1' : (match boundsM w with | none => false | some bs => decide ((ws.map wordV).length = bs.length) && ((ws.map wordV).zip bs).all fun p => wIn p.1 p.2) = true := h1
  cases eb : boundsM w with
  | none => rw [eb] at h1'; cases h1'
  | some bs =>
   rw [eb] at h1'
   rw [Bool.and_eq_true, decide_eq_true_eq, List.length_map] at h1'
   obtain ⟨hl, ha⟩ := h1'
   have two : ∀ {u v : Int}, bs = [u, v] → ∃ a b m k, ws = [a, b] ∧ a = numS m ∧ b = numS k ∧ (m : Int) < u ∧ (k : Int) < v ∧ k < 10 ^ 60 ∧ wordV b = .int (k : Nat) := by
    intro u v e
    subst e
    obtain ⟨a, b, e⟩ := two_list hl
    subst e
    have ha' : (wIn (wordV a) u && (wIn (wordV b) v && true)) = true := ha
    rw [Bool.and_eq_true, Bool.and_eq_true] at ha'
    obtain ⟨m, em, hm, _⟩ := wordV_in ha'.1
    obtain ⟨k, ek, hk, hk2⟩ := wordV_in ha'.2.1
    refine ⟨a, b, m, k, rfl, em, ek, hm, hk, hk2, ?_⟩
    unfold wordV
    rw [ek, num_isNum hk2, if_pos rfl, val_num]
   rcases bounds_two eb with ⟨ew, e⟩ | ⟨ew, e⟩ | ⟨ew, e⟩ | ⟨ew, e⟩ | ⟨ew, e⟩ | ⟨ew, e⟩ | ⟨ew, e⟩
   ·obtain ⟨a, b, m, k, e1, e2, e3, h4, h5, h6, _⟩ := two e
    subst e1 ew
    exact ⟨_, row_of2 es e2 e3, .put _ _ (by omega) h6⟩
   ·obtain ⟨a, b, m, k, e1, e2, e3, h4, h5, h6, _⟩ := two e
    subst e1 ew
    exact ⟨_, row_of2 es e2 e3, .add _ _ (by omega) (by omega)⟩
   ·obtain ⟨a, b, m, k, e1, e2, e3, h4, h5, h6, _⟩ := two e
    subst e1 ew
    exact ⟨_, row_of2 es e2 e3, .set _ _ (by omega) (by omega)⟩
   ·obtain ⟨a, b, m, k, e1, e2, e3, h4, h5, h6, _⟩ := two e
    subst e1 ew
    exact ⟨_, row_of2 es e2 e3, .look _ _ (by omega) (by omega)⟩
   ·obtain ⟨a, b, m, k, e1, e2, e3, h4, h5, h6, _⟩ := two e
    subst e1 ew
    exact ⟨_, row_of2 es e2 e3, .swap _ _ (by omega) (by omega)⟩
   ·subst e ew
    have e0 := List.length_eq_zero_iff.mp hl
    subst e0
    exact ⟨_, row_of0 es, .clear⟩
   ·obtain ⟨a, b, m, k, e1, e2, e3, h4, h5, h6, h7⟩ := two e
    subst e1 ew
    have h2' : (!(farV n [.str "skip", wordV a, wordV b])) = true := h2
    rw [h7] at h2'
    have h3 : (!(decide (("skip" : Str) = "skip") && decide ((n : Int) < (k : Int)))) = true := h2'
    rw [decide_eq_true rfl, Bool.true_and, Bool.not_eq_true', decide_eq_false_iff_not] at h3
    exact ⟨_, row_of2 es e2 e3, .skip _ _ (by omega) (by omega) (by omega)⟩
def limM (n : Nat) (w : Str) : Option (List Int) :=
 if w = "put" then some [4, TOPi] else if w = "add" then some [4, 4] else if w = "set" then some [12, 4] else if w = "look" then some [4, 12] else if w = "swap" then some [4, 12] else if w = "clear" then some [] else if w = "skip" then some [4, (n : Int) + 1] else none
def lstep (n : Nat) : List Str → Bool
 | [] => false
 | w :: vs => match limM n w with
  | none => false
  | some ls => decide (vs.length = ls.length) && (vs.zip ls).all fun p => lword p.1 p.2
theorem lim_two {n : Nat} {x : Str} {bs : List Int} (h : limM n x = some bs) : (x = "put" ∧ bs = [4, TOPi]) ∨ (x = "add" ∧ bs = [4, 4]) ∨ (x = "set" ∧ bs = [12, 4]) ∨ (x = "look" ∧ bs = [4, 12]) ∨ (x = "swap" ∧ bs = [4, 12]) ∨ (x = "clear" ∧ bs = []) ∨ (x = "skip" ∧ bs = [4, (n : Int) + 1]) := by
 unfold limM at h
 split at h
 ·rename_i e; cases h; exact .inl ⟨e, rfl⟩
 split at h
 ·rename_i e; cases h; exact .inr (.inl ⟨e, rfl⟩)
 split at h
 ·rename_i e; cases h; exact .inr (.inr (.inl ⟨e, rfl⟩))
 split at h
 ·rename_i e; cases h; exact .inr (.inr (.inr (.inl ⟨e, rfl⟩)))
 split at h
 ·rename_i e; cases h; exact .inr (.inr (.inr (.inr (.inl ⟨e, rfl⟩))))
 split at h
 ·rename_i e; cases h; exact .inr (.inr (.inr (.inr (.inr (.inl ⟨e, rfl⟩)))))
 split at h
 ·rename_i e; cases h; exact .inr (.inr (.inr (.inr (.inr (.inr ⟨e, rfl⟩)))))
 ·cases h
theorem lstep_good {n : Nat} {r : Str} (ha : Asc r) (hn : n ≤ 120) (h : lstep n (Txt.split r (one 32)) = true) : ∃ t, r = rowS t ∧ GoodT n t := by
 cases es : Txt.split r (one 32) with
 | nil => exact absurd es (split_ne _ _)
 | cons w ws =>
  rw [es] at h
  have hA : ∀ x ∈ w :: ws, Asc x := fun x hx => split_asc ha (by rw [es]; exact hx)
  have h1' : (match limM n w with | none => false | some ls => decide (ws.length = ls.length) && (ws.zip ls).all fun p => lword p.1 p.2) = true := h
  cases eb : limM n w with
  | none => rw [eb] at h1'; cases h1'
  | some bs =>
   rw [eb] at h1'
   rw [Bool.and_eq_true, decide_eq_true_eq] at h1'
   obtain ⟨hl, hal⟩ := h1'
   have two : ∀ {u v : Int}, bs = [u, v] → ∃ a b m k, ws = [a, b] ∧ a = numS m ∧ b = numS k ∧ (m : Int) < u ∧ (k : Int) < v ∧ k < 10 ^ 60 := by
    intro u v e
    subst e
    obtain ⟨a, b, e⟩ := two_list hl
    subst e
    have ha' : (lword a u && (lword b v && true)) = true := hal
    rw [Bool.and_eq_true, Bool.and_eq_true] at ha'
    obtain ⟨m, em, hm, _⟩ := (lword_iff (hA a (by simp))).mp ha'.1
    obtain ⟨k, ek, hk, hk2⟩ := (lword_iff (hA b (by simp))).mp ha'.2.1
    exact ⟨a, b, m, k, rfl, em, ek, hm, hk, hk2⟩
   rcases lim_two eb with ⟨ew, e⟩ | ⟨ew, e⟩ | ⟨ew, e⟩ | ⟨ew, e⟩ | ⟨ew, e⟩ | ⟨ew, e⟩ | ⟨ew, e⟩
   ·obtain ⟨a, b, m, k, e1, e2, e3, h4, h5, h6⟩ := two e
    subst e1 ew
    exact ⟨_, row_of2 es e2 e3, .put _ _ (by omega) h6⟩
   ·obtain ⟨a, b, m, k, e1, e2, e3, h4, h5, h6⟩ := two e
    subst e1 ew
    exact ⟨_, row_of2 es e2 e3, .add _ _ (by omega) (by omega)⟩
   ·obtain ⟨a, b, m, k, e1, e2, e3, h4, h5, h6⟩ := two e
    subst e1 ew
    exact ⟨_, row_of2 es e2 e3, .set _ _ (by omega) (by omega)⟩
   ·obtain ⟨a, b, m, k, e1, e2, e3, h4, h5, h6⟩ := two e
    subst e1 ew
    exact ⟨_, row_of2 es e2 e3, .look _ _ (by omega) (by omega)⟩
   ·obtain ⟨a, b, m, k, e1, e2, e3, h4, h5, h6⟩ := two e
    subst e1 ew
    exact ⟨_, row_of2 es e2 e3, .swap _ _ (by omega) (by omega)⟩
   ·subst e ew
    have e0 := List.length_eq_zero_iff.mp hl
    subst e0
    exact ⟨_, row_of0 es, .clear⟩
   ·obtain ⟨a, b, m, k, e1, e2, e3, h4, h5, h6⟩ := two e
    subst e1 ew
    exact ⟨_, row_of2 es e2 e3, .skip _ _ (by omega) (by omega) (by omega)⟩
theorem num_asc (n : Nat) : Asc (numS n) := fun c hc => by
 rw [numS_signs] at hc
 have := figs_ok n c hc
 omega
theorem lw {n : Nat} {L : Int} (h1 : (n : Int) < L) (h2 : n < 10 ^ 60) : lword (numS n) L = true := (lword_iff (num_asc n)).mpr ⟨n, rfl, h1, h2⟩
theorem small_top {n : Nat} (h : n ≤ 121) : n < 10 ^ 60 := Nat.lt_of_le_of_lt h (by decide +kernel)
theorem good_two {n : Nat} {w : Str} {u v : Int} {a b : Nat} (e : limM n w = some [u, v]) (h1 : (a : Int) < u) (h2 : (b : Int) < v) (ha : a < 10 ^ 60) (hb : b < 10 ^ 60) : lstep n (wdsOf (w, [a, b])) = true := by
 show (match limM n w with | none => false | some ls => decide ([numS a, numS b].length = ls.length) && ([numS a, numS b].zip ls).all fun p => lword p.1 p.2) = true
 rw [e]
 show (true && (lword (numS a) u && (lword (numS b) v && true))) = true
 rw [lw h1 ha, lw h2 hb]
 rfl
theorem lt_TOP {m : Nat} (h : m < 10 ^ 60) : (m : Int) < TOPi := by
 have e : ((10 ^ 60 : Nat) : Int) = TOPi := by decide +kernel
 rw [← e]
 exact Int.ofNat_lt.mpr h
theorem good_lstep {n : Nat} {t : Tl} (g : GoodT n t) : lstep n (wdsOf t) = true := by
 cases g with
 | put r m h1 h2 => exact good_two (by unfold limM; rw [if_pos rfl]) (by omega) (lt_TOP h2) (small_top (by omega)) h2
 | add r m h1 h2 => exact good_two (by unfold limM; rw [if_neg (by decide +kernel), if_pos rfl]) (by omega) (by omega) (small_top (by omega)) (small_top (by omega))
 | set r m h1 h2 => exact good_two (by unfold limM; rw [if_neg (by decide +kernel), if_neg (by decide +kernel), if_pos rfl]) (by omega) (by omega) (small_top (by omega)) (small_top (by omega))
 | look r m h1 h2 => exact good_two (by unfold limM; rw [if_neg (by decide +kernel), if_neg (by decide +kernel), if_neg (by decide +kernel), if_pos rfl]) (by omega) (by omega) (small_top (by omega)) (small_top (by omega))
 | swap r m h1 h2 => exact good_two (by unfold limM; rw [if_neg (by decide +kernel), if_neg (by decide +kernel), if_neg (by decide +kernel), if_neg (by decide +kernel), if_pos rfl]) (by omega) (by omega) (small_top (by omega)) (small_top (by omega))
 | clear =>
  have e : limM n "clear" = some [] := by unfold limM; rw [if_neg (by decide +kernel), if_neg (by decide +kernel), if_neg (by decide +kernel), if_neg (by decide +kernel), if_neg (by decide +kernel), if_pos rfl]
  show (match limM n "clear" with | none => false | some ls => decide (([] : List Str).length = ls.length) && (([] : List Str).zip ls).all fun p => lword p.1 p.2) = true
  rw [e]
  rfl
 | skip r m h1 h2 h3 => exact good_two (by unfold limM; rw [if_neg (by decide +kernel), if_neg (by decide +kernel), if_neg (by decide +kernel), if_neg (by decide +kernel), if_neg (by decide +kernel), if_neg (by decide +kernel), if_pos rfl]) (by omega) (by omega) (small_top (by omega)) (small_top (by omega))
def lgood (rs : List Str) : Bool := match partsTo rs with
 | none => false
 | some D => (decide (1 ≤ D.length) && decide (D.length ≤ 4)) && D.all fun p => p.all fun r => lstep p.length (Txt.split r (one 32))
def PGood (rs : List Str) : Prop := ∃ D, partsTo rs = some D ∧ 1 ≤ D.length ∧ D.length ≤ 4 ∧ ∀ p ∈ D, ∀ (i : Nat) r, p[i]? = some r → fitR p.length i r = true
theorem pick_part {n : Nat} : ∀ {p : List Str}, (∀ r ∈ p, ∃ t, r = rowS t ∧ GoodT n t) → ∃ q : Pt, p = q.map rowS ∧ ∀ t ∈ q, GoodT n t
 | [], _ => ⟨[], rfl, fun _ h => by cases h⟩
 | r :: p, h => by
  obtain ⟨t, e, g⟩ := h r (by simp)
  obtain ⟨q, e2, g2⟩ := pick_part fun x hx => h x (List.mem_cons_of_mem _ hx)
  exact ⟨t :: q, by rw [e, e2]; rfl, fun x hx => by rcases List.mem_cons.mp hx with z | z; (rw [z]; exact g); exact g2 x z⟩
theorem pick_prog : ∀ {D : List (List Str)}, (∀ p ∈ D, p.length ≤ 120 ∧ ∀ r ∈ p, ∃ t, r = rowS t ∧ GoodT p.length t) → ∃ ps : List Pt, D = ps.map (·.map rowS) ∧ ∀ p ∈ ps, p.length ≤ 120 ∧ ∀ t ∈ p, GoodT p.length t
 | [], _ => ⟨[], rfl, fun _ h => by cases h⟩
 | p :: D, h => by
  obtain ⟨h1, h2⟩ := h p (by simp)
  obtain ⟨q, e, g⟩ := pick_part h2
  obtain ⟨ps, e2, g2⟩ := pick_prog fun x hx => h x (List.mem_cons_of_mem _ hx)
  refine ⟨q :: ps, by rw [e, e2]; rfl, fun x hx => ?_⟩
  rcases List.mem_cons.mp hx with z | z
  ·rw [z]
   have el : p.length = q.length := by rw [e, List.length_map]
   rw [el] at g h1
   exact ⟨h1, g⟩
  ·exact g2 x z
theorem good_of {rs : List Str} {D : List (List Str)} (h : partsTo rs = some D) (h1 : 1 ≤ D.length) (h4 : D.length ≤ 4) (hn : ∀ p ∈ D, p.length ≤ 120) (hg : ∀ p ∈ D, ∀ r ∈ p, ∃ t, r = rowS t ∧ GoodT p.length t) : ∃ ps, GoodP ps ∧ rows ps = rs := by
 obtain ⟨ps, e, g⟩ := pick_prog fun p hp => ⟨hn p hp, hg p hp⟩
 obtain ⟨e1, _, _⟩ := partsTo_flat _ rs D rfl h
 subst e
 rw [List.length_map] at h1 h4
 exact ⟨ps, ⟨h1, h4, g⟩, by rw [rows_flat, e1]⟩
theorem pgood_good {rs : List Str} (hn : rs.length ≤ 120) (h : PGood rs) : ∃ ps, GoodP ps ∧ rows ps = rs := by
 obtain ⟨D, e, h1, h4, hf⟩ := h
 obtain ⟨_, _, h3⟩ := partsTo_flat _ rs D rfl e
 refine good_of e h1 h4 (fun p hp => Nat.le_trans (h3 p hp).1 hn) fun p hp r hr => ?_
 obtain ⟨i, hi, ei⟩ := List.getElem_of_mem hr
 exact fit_good (hf p hp i r (by rw [List.getElem?_eq_getElem hi, ei]))
theorem lgood_good {rs : List Str} (hn : rs.length ≤ 120) (ha : ∀ r ∈ rs, Asc r) (h : lgood rs = true) : ∃ ps, GoodP ps ∧ rows ps = rs := by
 unfold lgood at h
 cases e : partsTo rs with
 | none => rw [e] at h; cases h
 | some D =>
  rw [e] at h
  have h' : ((decide (1 ≤ D.length) && decide (D.length ≤ 4)) && D.all fun p => p.all fun r => lstep p.length (Txt.split r (one 32))) = true := h
  rw [Bool.and_eq_true, Bool.and_eq_true, decide_eq_true_eq, decide_eq_true_eq, List.all_eq_true] at h'
  obtain ⟨⟨h1, h4⟩, hp⟩ := h'
  obtain ⟨_, _, h3⟩ := partsTo_flat _ rs D rfl e
  refine good_of e h1 h4 (fun p hp => Nat.le_trans (h3 p hp).1 hn) fun p hpm r hr => ?_
  have := List.all_eq_true.mp (hp p hpm) r hr
  exact lstep_good (ha r ((h3 p hpm).2 r hr).1) (Nat.le_trans (h3 p hpm).1 hn) this
theorem good_lgood {ps : List Pt} (g : GoodP ps) : lgood (rows ps) = true := by
 have e : partsTo (rows ps) = some (ps.map (·.map rowS)) := by
  unfold partsTo
  rw [rows_flat, partsTo_of _ [] fun p hp r hr => ?_]
  ·rfl
  ·obtain ⟨q, hq, rfl⟩ := List.mem_map.mp hp
   obtain ⟨t, ht, rfl⟩ := List.mem_map.mp hr
   exact row_ne ((g.part q hq).2 t ht)
 unfold lgood
 rw [e]
 show ((decide (1 ≤ (ps.map (·.map rowS)).length) && decide ((ps.map (·.map rowS)).length ≤ 4)) && (ps.map (·.map rowS)).all fun p => p.all fun r => lstep p.length (Txt.split r (one 32))) = true
 rw [List.length_map, decide_eq_true g.ne, decide_eq_true g.le, Bool.true_and, Bool.true_and, List.all_eq_true]
 intro p hp
 obtain ⟨q, hq, rfl⟩ := List.mem_map.mp hp
 rw [List.all_eq_true]
 intro r hr
 obtain ⟨t, ht, rfl⟩ := List.mem_map.mp hr
 have gt := (g.part q hq).2 t ht
 rw [row_words gt, List.length_map]
 exact good_lstep gt
theorem lgood_no {rs : List Str} (hn : rs.length ≤ 120) (h : lgood rs = false) : ¬ PGood rs := fun p => by
 obtain ⟨ps, g, e⟩ := pgood_good hn p
 rw [← e, good_lgood g] at h
 cases h
end L4
namespace L2
open PySem PySem.Spec PyProof.Rows L3
open Sem (wp)
theorem entry_unchain : entryFor table "proto.unchain" = some Builtin.«proto.unchain» := entryFor_of_fast (by kernel_rfl)
section
variable {prog : Program} {w : World} {A : Around} {E : Value → Shared → Prop} {s : Shared} {env : Env} {C : Addr}
theorem raiseNew_over {α : Type} {e h : Addr} {oe oh : Obj} {vs hv : Array Value} {Q : α → Shared → Prop} (hh : A.handled = some (.ref h)) (hne : h ≠ e) (he : s.heap.get? e = some oe) (hd : oe.data = .fields vs) (hsz : 2 < vs.size)
  (hoh : s.heap.get? h = some oh) (hdh : oh.data = .fields hv) (h2 : hv[2]? = some .none)
  (k : E (.ref e) { s with heap := s.heap.update e (Obj.mapFields (·.setIfInBounds 2 (.ref h))) }) : wpAny (model prog w) A (raiseNew (.ref e) : Sem α) Q E s := by
 unfold raiseNew
 refine wpAny_bind (wpAny_handled ?_)
 rw [hh]
 show wpAny _ _ (if (Value.ref h != Value.ref e) = true then _ else _) _ _ _
 rw [if_pos (by simpa using hne)]
 refine wpAny_bind ((wpAny_holding (wpAny_runValue (codeAny_builtin entry_unchain ?_))))
 unfold Builtin.«proto.unchain»
 refine wpAny_bind (wpAny_field hoh hdh h2 ?_)
 rw [if_pos (by decide)]
 refine wpAny_pure ?_
 have hu : wpAny (model prog w) A (updateField e 2 (.ref h)) (fun _ s' => wpAny (model prog w) A (throw (.ref e)) Q E s') E s := by
  have := wpAny_setField (M := model prog w) (A := A) (E := E) (a := e) (i := 2) (x := .ref h) (Q := fun _ s' => wpAny (model prog w) A (throw (.ref e)) Q E s') he hd hsz (wpAny_throw k)
  exact this
 exact wpAny_bind hu
theorem raise_coreN {x c : Sem Value} {ea : Addr} {Q : Flow → Shared → Prop} (hh : A.handled = some (.ref ea)) (hcn : ∀ (R : Value → Shared → Prop) s, R .none s → wpAny (model prog w) A c R E s)
  (k : wpAny (model prog w) A x (fun v s1 => ∃ e oe a0 a5 oi oh hv, v = .ref e ∧ ea ≠ e ∧ XAt s1.heap C oi ∧ s1.heap.get? e = some oe ∧ oe.cls = .ref C ∧ oe.data = .fields #[a0, .none, .none, .none, .bool false, a5] ∧ s1.heap.get? ea = some oh ∧ oh.data = .fields hv ∧ hv[2]? = some .none ∧
   ∀ h', (∀ b o, b ≠ e → s1.heap.get? b = some o → h'.get? b = some o) → h'.get? e = some { oe with data := .fields #[a0, .none, .ref ea, .none, .bool true, a5] } → E (.ref e) { s1 with heap := h' }) E s) :
  wpAny (model prog w) A (raiseStmt env (some x) (some c)) Q E s := by
 unfold raiseStmt
 refine wpAny_bind (wpAny_mono k (fun v s1 z => ?_) fun _ _ y => y)
 obtain ⟨e, oe, a0, a5, oi, oh, hv, rfl, hne, ⟨nm, q, N, bs, bm, hdct, sn, sub, ab, col, dd, k0, k1, k2, k3, k5, mN, hC, hN, hi, T⟩, he, hc, hd, hoh, hdh, h2, hE⟩ := z
 have cB : (Value.ref C :: bm).contains (.type "BaseException") = true := by rw [List.contains_cons, T.hasType (show bmVE.contains (.type "BaseException") = true from rfl), Bool.or_true]
 obtain ⟨oc, od, oda, osl⟩ := oe
 dsimp only at hc hd
 subst hc hd
 obtain ⟨hp, g, d, tk, os⟩ := s1
 refine wpAny_bind (wpAny_holding (hcn _ _ ?_))
 refine wpAny_bind (wpAny_pure ?_)
 refine wpAny_bind (wpAny_holding ?_)
 unfold excFromValue
 repeat (first | (with_reducible refine wpAny_loadPart_at he ?_) | (with_reducible refine wpAny_loadPart_at hC ?_) | (with_reducible refine wpAny_isSubtype_exc hC ?_; rw [cB]) | wp_step)
 have nCe : e ≠ C := fun z => by rw [z] at he; rw [he] at hC; cases hC
 have e1 := Heap.get?_update_self (Obj.mapFields (·.setIfInBounds 3 Value.none)) he rfl
 have e2 := Heap.get?_update_self (Obj.mapFields (·.setIfInBounds 4 (Value.bool true))) e1 rfl
 have oth : ∀ b, b ≠ e → ((hp.update e (Obj.mapFields (·.setIfInBounds 3 Value.none))).update e (Obj.mapFields (·.setIfInBounds 4 (Value.bool true)))).get? b = hp.get? b := fun b n => by
  rw [Heap.get?_update_other _ _ (Ne.symm n), Heap.get?_update_other _ _ (Ne.symm n)]
 have hC2 := (oth C (Ne.symm nCe)).trans hC
 have hoh2 := (oth ea hne).trans hoh
 generalize ((hp.update e (Obj.mapFields (·.setIfInBounds 3 Value.none))).update e (Obj.mapFields (·.setIfInBounds 4 (Value.bool true)))) = h2' at e2 oth hC2 hoh2 ⊢
 refine wpAny_loadPart_at hC2 (wpAny_pure ?_)
 rw [if_pos (by first | rfl | decide)]
 refine wpAny_pure ?_
 refine wpAny_bind ?_
 unfold setFlight
 refine wpAny_bind (wpAny_field e2 rfl (x := .none) rfl ?_)
 rw [if_neg (by decide)]
 refine wpAny_pure ?_
 refine raiseNew_over hh hne e2 rfl (by show 2 < 6; decide) hoh2 hdh h2 ?_
 refine hE _ (fun b o n z => ?_) ?_
 ·rw [Heap.get?_update_other _ _ (Ne.symm n)]
  exact (oth b n).trans z
 ·exact Heap.get?_update_self _ e2 rfl
end
def tTryR (K : PySem.W.Frag) (c1 c2 : Value) (Wo : WX) (tb : WX → TS) : TS := fun D σ H => tb (fun σ' c dd H' => c ≠ .ref chNT ∧ (PySem.W.kitCls K c c1 = some true ∨ (PySem.W.kitCls K c c1 = some false ∧ PySem.W.kitCls K c c2 = some true)) ∧ Wo σ' (.ref chNT) none H') D σ H
section
variable {X : Cx} {body : List Stmt} {x1 x2 y : Str} {n1 n2 m1 m2 u1 u2 q1 q2 r1 r2 p1 p2 pos : Pos} {k1 k2 : Nat} {tb : WX → TS} {Wo : WX} {c1 c2 : Value} {e1 e2 : Expr} {t1 t2 : TA}
theorem suite_raise {pins : List (Addr × Obj)} {σ : St} {H : Hp} {s : Shared} {ea : Addr} {c : Value} {T : Addr} {e : Expr} {t : TA} {np cpos np2 pos : Pos} {k : Nat} {Q : Flow → Shared → Prop} {dd : Option Addr} (hL : Lifts X Wo) (hP : ∀ hd, PassesOwnAt (model X.prog X.w) (X.A.mark hd) X.A X.env X.xe)
  (xc : XC X.K chNT) (hg : Gl X y) (hm : X.mg y = some (.ref chNT)) (ha : ∀ ea pn, PA (X.suite ea pn) [e] t) (hta : ∀ σ H Q, (∀ vs, vs.length ≤ sizeLine → Q vs H) → t σ H Q) (hdb : (y == ("__debug__" : Str)) = false)
  (he : starEach [e] X.env = (false, eval e X.env) :: starEach [] X.env) (I : Inv X pins σ H s) (fl : Fly s.heap ea c dd (some T)) (fe : FpOk X pins H ea) (hc : c ≠ .ref chNT) (hW : Wo σ (.ref chNT) none H) :
  wpAny (model X.prog X.w) (X.A.mark (some (.ref ea))) (execs [.Raise (some (.Call (.Name y np) [e] [] cpos)) (some (.Constant .none k np2)) pos] X.env) Q (notedBy (model X.prog X.w) (X.A.mark (some (.ref ea))) X.env (cameBackBy (model X.prog X.w) X.A X.env X.xe)) s := by
 have ok := I.ok
 refine wpAny_mono (Q := Q) (E := X.xe) ?_ (fun _ _ z => z) (hP _)
 refine wpAny_execs_cons ?_
 rw [arm_exec_Raise]
 refine wpAny_bind (wpAny_standAt (raise_coreN (C := chNT) (ea := ea) rfl (fun R s q => ?_) (wpAny_bind (wpAny_mono ?_ (fun v s3 z => wpAny_bind (wpAny_standAt (wpAny_pure z))) fun _ _ y => y))))
 ·exact wpAny_bind (wpAny_Constant_none (wpAny_bind (wpAny_standAt (wpAny_pure q))))
 ·obtain ⟨⟨oe, vs, a0, qe, hce, hdd, hd, h0, h1, hcx⟩, _⟩ := fl
  have h2 := hcx hc
  have J0 := I.suite ea
  have J : Inv (X.suite ea (X.pn ++ pins)) [(ea, oe)] σ H s := ⟨J0.ok, J0.os, J0.bare, J0.base, J0.loc, J0.cell, J0.free, J0.freeC, fun p hp => by
   rcases List.mem_append.mp hp with z | z
   ·exact J0.pin p (List.mem_append_left _ z)
   ·rw [List.mem_singleton.mp z]
    exact ⟨qe, fe.1, fe.2.1, fe.2.2.1, fun v z => by rw [hd] at z; cases z⟩, J0.hok, J0.len⟩
  refine wpAny_Call_Name_kw (ld_glob J hg hm ?_ hdb)
  refine PySem.W.callWith_K (h₀ := X.base) I.ok.mod.kin xc.kp (wpAny_mono (ha ea (X.pn ++ pins) cpos _ s σ H (fun vs H' => vs.length ≤ sizeLine ∧ H' = H) J (hta σ H _ fun vs hz => ⟨hz, rfl⟩)) (fun us s1 ⟨vs', H1, I1, r, hz, eH⟩ => ⟨I1.kIn, ?_⟩) fun _ _ z => False.elim z) he (by rfl)
  subst eH
  have xa := xc.exc.at I1.kIn
  have qe1 := (I1.pin (ea, oe) (List.mem_append_right _ (List.mem_singleton.mpr rfl))).1
  have I1' : Inv (X.suite ea (X.pn ++ pins)) [] σ H1 s1 := ⟨I1.ok, I1.os, I1.bare, I1.base, I1.loc, I1.cell, I1.free, I1.freeC, fun p hp => I1.pin p (by rw [List.append_nil] at hp; exact List.mem_append_left _ hp), I1.hok, I1.len⟩
  have I2 := Inv.unsuite ok I1'
  obtain ⟨h1', g1, d1, tk1, os1⟩ := s1
  refine exc_call xa (by rw [List.nil_append, ← r.length]; exact hz) fun h' t' k ge => ?_
  have lt := Heap.lt_size qe1
  have hne : ea ≠ h1'.objs.size + 1 := Nat.ne_of_lt (Nat.lt_succ_of_lt lt)
  have I3 := I2.kept (t' := tk1) k
  have fp : FpOk X pins H1 (h1'.objs.size + 1) := I2.fpOk (Nat.le_succ _) (I2.hok.fresh (Nat.le_succ _))
  refine ⟨_, _, _, _, _, _, _, rfl, hne, xa.keeps k, ge, rfl, rfl, k _ _ qe1, hd, h2, fun h'' k2 ge2 => ?_⟩
  have I4 : Inv X pins σ H1 ⟨h'', g1, d1, tk1, os1⟩ := Inv.turned (s := ⟨h', g1, d1, tk1, os1⟩) (t' := tk1) (it := h1'.objs.size + 1) I3 (fun b o hb e => k2 b o hb e) fp.1 fp.2.1 fp.2.2.2.1 fp.2.2.2.2.1 fp.2.2.2.2.2
  exact hL _ _ _ _ _ _ _ (tb := none) ⟨I4, ⟨⟨_, _, _, ge2, rfl, rfl, rfl, rfl, rfl, fun z => absurd rfl z⟩, fun T z => by cases z⟩, fp, fun T z => by cases z⟩ hW
theorem ps_tryR2 (hs : X.stack = X.env :: X.outer) (hf : X.env.frame = some X.env.locals) (hL : Lifts X Wo) (hP : ∀ hd, PassesOwnAt (model X.prog X.w) (X.A.mark hd) X.A X.env X.xe) (hg1 : Gl X x1) (hm1 : X.mg x1 = some c1) (hb1 : PySem.W.kitCls X.K c1 (.type "BaseException") = some true)
  (hg2 : Gl X x2) (hm2 : X.mg x2 = some c2) (hb2 : PySem.W.kitCls X.K c2 (.type "BaseException") = some true) (xc : XC X.K chNT) (hg : Gl X y) (hm : X.mg y = some (.ref chNT))
  (hb : ∀ (W : WX) (pn : List (Addr × Obj)) (E : Value → Shared → Prop), Lifts (X.body pn E) W → PassesOwn (model X.prog X.w) X.A X.env E → PSs (X.body pn E) body (tb W))
  (ha1 : ∀ ea pn, PA (X.suite ea pn) [e1] t1) (hta1 : ∀ σ H Q, (∀ vs, vs.length ≤ sizeLine → Q vs H) → t1 σ H Q) (ha2 : ∀ ea pn, PA (X.suite ea pn) [e2] t2) (hta2 : ∀ σ H Q, (∀ vs, vs.length ≤ sizeLine → Q vs H) → t2 σ H Q)
  (hd1 : (x1 == ("__debug__" : Str)) = false := by decide) (hd2 : (x2 == ("__debug__" : Str)) = false := by decide) (hdb : (y == ("__debug__" : Str)) = false := by decide)
  (he1 : starEach [e1] X.env = (false, eval e1 X.env) :: starEach [] X.env := by rfl) (he2 : starEach [e2] X.env = (false, eval e2 X.env) :: starEach [] X.env := by rfl) :
  PS X (.Try body [.ExceptHandler (some (.Name x1 n1)) none [.Raise (some (.Call (.Name y m1) [e1] [] u1)) (some (.Constant .none k1 q1)) r1] p1, .ExceptHandler (some (.Name x2 n2)) none [.Raise (some (.Call (.Name y m2) [e2] [] u2)) (some (.Constant .none k2 q2)) r2] p2] [] [] pos) (tTryR X.K c1 c2 Wo tb) := by
 intro pins s σ H D I h
 have ok := I.ok
 refine wpAny_Try_except (wpAny_mono (hb _ (X.pn ++ pins) _ ?_ PassesOwn.looking [] s σ H D (I.body _) h) (fun f s1 q => ?_) fun _ _ y => y)
 ·intro pl σ1 H1 s1 ea c dd tb1 x1 hW
  obtain ⟨hc, hk, hW⟩ := hW
  have x2 : XState X pins σ1 H1 s1 ea c dd tb1 := ⟨x1.inv.unbody, x1.fly, x1.fe.body, fun T z => (x1.ft T z).body⟩
  refine look_core hs hf x2 fun h' T I2 fl fe fT => ?_
  have I3 := I2.suite ea
  refine wpAny_handleBy_cons (codeAny_handlers_test (ld_glob (X := X.suite ea (X.pn ++ pins)) I3 hg1 hm1 ?_ hd1)) (by intro z; cases z)
  have fin : ∀ {e : Expr} {t : TA} {np cpos np2 pos : Pos} {k : Nat} {Q : Flow → Shared → Prop}, (∀ ea pn, PA (X.suite ea pn) [e] t) → (∀ σ H Q, (∀ vs, vs.length ≤ sizeLine → Q vs H) → t σ H Q) → starEach [e] X.env = (false, eval e X.env) :: starEach [] X.env →
    wpAny (model X.prog X.w) (X.A.mark (some (.ref ea))) (setFlight (.ref ea) none) (fun _ s₁ => wpAny (model X.prog X.w) (X.A.mark (some (.ref ea))) (execs [.Raise (some (.Call (.Name y np) [e] [] cpos)) (some (.Constant .none k np2)) pos] X.env) Q (notedBy (model X.prog X.w) (X.A.mark (some (.ref ea))) X.env (cameBackBy (model X.prog X.w) X.A X.env X.xe)) s₁) (notedBy (model X.prog X.w) (X.A.mark (some (.ref ea))) X.env (cameBackBy (model X.prog X.w) X.A X.env X.xe)) { s1 with heap := h' } := fun ha hta he => by
   refine flight_core (T := T) (fl := .none) ⟨fl.1, fl.2 T rfl⟩ fun h3 k3 fl3 => ?_
   have I4 : Inv X pins σ1 H1 { s1 with heap := h3 } := Inv.turned (s := { s1 with heap := h' }) (h' := h3) (t' := s1.toks) (it := T) I2 (fun b o hb e => k3 b o hb e) fT.1 fT.2.1 fT.2.2.2.1 fT.2.2.2.2.1 fT.2.2.2.2.2
   exact suite_raise hL hP xc hg hm ha hta hdb he I4 fl3 fe hc hW
  rcases hk with hk | ⟨hk1, hk2⟩
  ·refine match_core I3.kIn fl.1 hk hb1 (codeAny_handlers_suite ?_)
   exact fin ha1 hta1 he1
  ·refine match_core I3.kIn fl.1 hk1 hb1 ?_
   refine wpAny_handleBy_cons (codeAny_handlers_test (ld_glob (X := X.suite ea (X.pn ++ pins)) I3 hg2 hm2 ?_ hd2)) (by intro z; cases z)
   refine match_core I3.kIn fl.1 hk2 hb2 (codeAny_handlers_suite ?_)
   exact fin ha2 hta2 he2
 ·have q' := SP.unbody q
  cases f with
  | next => exact wpAny_execs_nil q'
  | brk => exact q'
  | cont => exact q'
  | ret u => exact q'
end
end L2
namespace TL
open PySem PySem.Spec PyProof.Rows PySem.SeqAt L2 L3 L4
section
variable {P : Program} {w : World} {K : W.Frag} {mg : Str → Option Value} {base : Heap}
theorem in_figs_iff (c : Nat) : (!(Builtin.Str.occurrences ("0123456789" : Str) ⟨#[c]⟩ 0 ("0123456789" : Str).length 1).isEmpty) = dig c := by
 rw [StrLaws.found_one]
 have e : (Str.ofString "0123456789").cps.toList = [48, 49, 50, 51, 52, 53, 54, 55, 56, 57] := by decide +kernel
 rw [e]
 unfold dig
 rw [Bool.eq_iff_iff, decide_eq_true_eq, Bool.and_eq_true, decide_eq_true_eq, decide_eq_true_eq]
 simp only [List.mem_cons, List.not_mem_nil, or_false]
 omega
def spNumG : Sp := fun vs H Q _ => ∃ x : Str, vs = [.str x] ∧ Asc x ∧ x.length ≤ 1000 ∧ ∀ H', Same H H' → Q (.bl (isNum x)) H'
theorem ok_NumG {f : Addr} {fd : FuncData} (F : Fun K "is_number" "is_number" sIsNum f fd) (B : Bl mg) (T : Tx mg) : FnOk P w K mg base CX0 1 f fd ["word"] spNumG := by
 obtain ⟨uF, mF, rF⟩ := T.figs
 obtain ⟨uM, mM, rM⟩ := T.most
 refine F.ok scNum (fun vs H Q E h => ?_) (fun cdv A outer s H vs Q E hr h => ?_)
 ·obtain ⟨n, rfl, _⟩ := h
  rfl
 ·obtain ⟨x, rfl, ha, hl, k⟩ := h
  have hz : x.length ≤ sizeLine := Nat.le_of_lt (small1000 (by omega))
  have fin : ∀ b H', Same H H' → isNum x = b → Q (.bl b) H' := fun b H' s1 e => by rw [← e]; exact k H' s1
  have e0 : isNum x = ((decide (1 ≤ x.length) && decide (x.length ≤ 60)) && (!(decide (x.cps.toList.head? = some 48) && decide (1 < x.length)) && x.cps.toList.all dig)) := rfl
  refine ⟨_, pss_cons (ps_if (pt_not (pt_chain op_le op_le pe_int (pe_callB call_len_str rfl B.len PySem.boot_len (pa_cons (pv 0) pa_nil)) (pe_glob rfl mM rM))) (pss_one (ps_ret pe_bl)) pss_nil)
   (pss_cons (ps_if (PW.pt (pw_and (pt_cmpR op_eq (pe_item_str (pv 0) pe_int (fun _ _ => rfl)) pe_str (nomark _)) (pw_and1 (pt_cmpR op_gt (pe_callB call_len_str rfl B.len PySem.boot_len (pa_cons (pv 0) pa_nil)) pe_int (nomark _))))) (pss_one (ps_ret pe_bl)) pss_nil)
   (pss_one (ps_ret (pe_callB (call_all rfl) rfl B.all boot_all (pa_cons (pe_comp (N := ["sign"]) (idx := []) rfl (ScC.of (by kernel_rfl)) (gkeep_name (Nat.zero_le _))
    (pi_str (pv 0)) (fun _ _ _ _ => pg_name (i := 0) nd_sign rfl (Or.inl rfl) (.inr rfl)) (fun _ _ _ _ => pts_nil)
    (fun _ _ _ _ => pe_cmpR op_in_str (pv 0) (pe_glob rfl mF rF) rfl)) pa_nil))))), ?_⟩
  refine ⟨_, rfl, _, rfl, hz, _, _, rfl, rfl, _, rfl, iteD (fun h1 => ?_) (fun h1 => ?_)⟩
  rotate_left
  ·exact ⟨_, rfl, iteT (fin false H (Same.refl H) (by rw [e0, decide_eq_false (show ¬ 1 ≤ x.length by omega)]; rfl))⟩
  refine ⟨_, _, rfl, rfl, _, rfl, iteND (fun h2 => ?_) (fun h2 => ?_)⟩
  ·exact fin false H (Same.refl H) (by rw [e0, decide_eq_false (show ¬ x.length ≤ 60 by omega), Bool.and_false, Bool.false_and])
  have g1 : 1 ≤ x.length := by omega
  have g2 : x.length ≤ 60 := by omega
  rw [decide_eq_true g1, decide_eq_true g2, Bool.true_and, Bool.true_and] at e0
  have tail : isNum x = x.cps.toList.all dig → CompW (Its x) (gName 0) tYes (tOp (fun x y H Q => ∃ i j, x = .str i ∧ y = .str j ∧ Q (.bl (!(Builtin.Str.occurrences j i 0 j.length 1).isEmpty)) H) (tVar 0) (tC (.str "0123456789"))) (capS [] ["sign"].length [some (.str x)]) H
    fun ys H2 => ys.length ≤ sizeLine ∧ ∀ p, H2 p = none → ∃ (q : Addr) (bs : List Bool), ([V.ref p] : List V) = [.ref q] ∧ SqL K (upd H2 p (.lst ys)) q (bs.map V.bl) ∧ Q (.bl (bs.all id)) (upd H2 p (.lst ys)) := by
   intro eN
   refine compW_of (n := x.length) (fun i ys H' => Same H H' ∧ i ≤ x.length ∧ ys = ((x.cps.toList.take i).map dig).map V.bl) hz ?_ ?_ ?_ ?_ ?_ ?_
   ·exact ⟨Same.refl _, Nat.zero_le _, rfl⟩
   ·rintro i ys H' ⟨_, _, e⟩
    rw [e, List.length_map, List.length_map, List.length_take]
    omega
   ·rintro i ys H' hi _
    exact hi
   ·rintro ys H' _
    exact Nat.le_refl _
   ·rintro i ys H' hi ⟨s1, _, e⟩ y H'' ⟨eH, c, hc, ex⟩
    subst eH
    subst ex
    have hm : x.cps.toList[i]? = some c := by simpa using hc
    refine ⟨_, rfl, _, _, rfl, rfl, s1, hi, ?_⟩
    rw [in_figs_iff c, e, List.take_add_one, hm, List.map_append, List.map_append]
    rfl
   ·rintro ys H' ⟨s1, _, e⟩
    rw [← len_toList x, List.take_length] at e
    refine ⟨by rw [e, List.length_map, List.length_map, len_toList]; exact hz, fun r hr0 => ?_⟩
    refine ⟨r, x.cps.toList.map dig, rfl, SqL.of (by rw [upd_same, e]), ?_⟩
    refine fin _ _ (same_new s1 hr0) ?_
    rw [eN, List.all_map]
    rfl
  have hasc : (x.cps.all fun x => decide (x < 128)) = true := by
   rw [← Array.all_toList, List.all_eq_true]
   intro c hc
   rw [decide_eq_true (ha c hc)]
  have hlt : 0 < x.cps.toList.length := by rw [len_toList]; omega
  obtain ⟨c, hc0⟩ : ∃ c, x.cps.toList[0]? = some c := ⟨_, List.getElem?_eq_getElem hlt⟩
  have hc : x.cps[0]? = some c := by simpa using hc0
  have hhead : x.cps.toList.head? = some c := by rw [List.head?_eq_getElem?]; exact hc0
  rw [hhead] at e0
  have e48 : (Str.ofString "0") = ⟨#[48]⟩ := by decide +kernel
  refine ⟨_, rfl, _, 0, c, rfl, rfl, by decide, by decide, by omega, hc, rfl, _, rfl, iteD (fun h3 => ?_) (fun h3 => ?_)⟩
  ·have h48 : c = 48 := by
    have e := str_inj h3
    rw [e48] at e
    simpa using e
   subst h48
   refine ⟨_, rfl, _, rfl, hz, _, _, rfl, rfl, _, rfl, iteD (fun h4 => ?_) (fun h4 => ?_)⟩
   ·exact fin false H (Same.refl H) (by rw [e0, decide_eq_true rfl, decide_eq_true (show 1 < x.length by omega)]; rfl)
   ·exact ⟨_, rfl, _, rfl, hasc, tail (by rw [e0, decide_eq_true rfl, decide_eq_false (show ¬ 1 < x.length by omega)]; rfl)⟩
  ·refine ⟨_, rfl, _, rfl, hasc, tail ?_⟩
   have hn : ¬ (some c = some 48) := fun z => h3 (by cases z; rw [e48])
   rw [e0, decide_eq_false hn]
   rfl
theorem call_int_dig {X : Cx} : CallR X (.type "int") (fun xs H Q => ∃ x : Str, xs = [.str x] ∧ x.cps.toList.all dig = true ∧ x.cps.toList ≠ [] ∧ x.length ≤ 60 ∧ Q (.int (valS x : Nat)) H) := by
 intro pins s σ H xs us Q I r h
 obtain ⟨x, rfl, hd, hne, hl, q⟩ := h
 obtain ⟨u, rfl, t, rfl⟩ := vals1 r
 have e := PySem.intText_digits (x := x) (fun c hc => dig_iff.mp (List.all_eq_true.mp hd c hc)) hne (Nat.le_trans hl (by decide))
 exact W.KIN.call_text e (Nat.le_trans hl (by decide)) ⟨.int _, H, I.tok _, ⟨_, rfl⟩, q⟩
def spNumOfG : Sp := fun vs H Q _ => ∃ x : Str, vs = [.str x] ∧ Asc x ∧ x.length ≤ 1000 ∧ ∀ H', Same H H' → Q (wordV x) H'
theorem isNum_dig {x : Str} (h : isNum x = true) : x.cps.toList.all dig = true ∧ x.cps.toList ≠ [] ∧ x.length ≤ 60 := by
 unfold isNum at h
 rw [Bool.and_eq_true, Bool.and_eq_true, Bool.and_eq_true, decide_eq_true_eq, decide_eq_true_eq] at h
 obtain ⟨⟨h1, h2⟩, _, h4⟩ := h
 refine ⟨h4, fun z => ?_, h2⟩
 have := len_toList x
 rw [z] at this
 simp at this
 omega
theorem ok_NumOfG {f fN : Addr} {fd fdN : FuncData} (F : Fun K "number_of" "number_of" sNumOf f fd) (B : Bl mg) (GN : FnOk P w K mg base CX0 1 fN fdN ["word"] spNumG) (kN : W.keepIn K (.ref fN) = true) (bN : Binds K fdN ["word"] []) (mN : mg "is_number" = some (.ref fN)) :
  FnOk P w K mg base CX0 2 f fd ["word"] spNumOfG := by
 refine F.ok scNumOf (fun vs H Q E h => ?_) (fun cdv A outer s H vs Q E hr h => ?_)
 ·obtain ⟨n, rfl, _⟩ := h
  rfl
 ·obtain ⟨x, rfl, ha, hl, k⟩ := h
  refine ⟨_, pss_one (ps_ret (pe_ifExp (pt_val (pe_call GN hr rfl mN kN bN .nil pass0 (pa_cons (pv 0) pa_nil))) (pe_callTy call_int_dig rfl B.int boot_int (pa_cons (pv 0) pa_nil)) pe_non)), ?_⟩
  refine ⟨_, rfl, x, rfl, ha, hl, fun H1 s1 => ⟨_, rfl, iteB (fun h1 => ?_) (fun h1 => ?_)⟩⟩
  ·obtain ⟨a, b, c⟩ := isNum_dig h1
   have kk := k H1 s1
   unfold wordV at kk
   rw [if_pos h1] at kk
   exact ⟨_, rfl, x, rfl, a, b, c, kk⟩
  ·have kk := k H1 s1
   unfold wordV at kk
   rw [h1, if_neg Bool.false_ne_true] at kk
   exact kk
def spToldG : Sp := fun vs H Q _ => ∃ r : Str, vs = [.str r] ∧ Asc r ∧ r.length ≤ 900 ∧ ∀ a H', Same H H' → H' a = some (.tup (toldR r)) → Q (.ref a) H'
theorem ok_ToldG {f fN : Addr} {fd fdN : FuncData} (F : Fun K "told_of" "told_of" sToldOf f fd) (B : Bl mg) (GN : FnOk P w K mg base CX0 2 fN fdN ["word"] spNumOfG) (kN : W.keepIn K (.ref fN) = true) (bN : Binds K fdN ["word"] []) (mN : mg "number_of" = some (.ref fN)) :
  FnOk P w K mg base CX0 3 f fd ["row"] spToldG := by
 refine F.ok scToldOf (fun vs H Q E h => ?_) (fun cdv A outer s H vs Q E hr h => ?_)
 ·obtain ⟨t, rfl, _⟩ := h
  rfl
 ·obtain ⟨rw_, rfl, ha, hl, k⟩ := h
  refine ⟨_, pss_cons (ps_set (i := 1) scToldOf.nd rfl (Or.inl rfl) (pe_bm PySem.F.plainAttrs_str PySem.F.slot_str_split PySem.F.type_str_split mt_split (pv 0) (pa_cons pe_str pa_nil)))
   (pss_one (ps_ret (pe_callTy call_tuple_of rfl B.tuple boot_tuple (pa_cons (pe_op op_cat (pe_slice sl_list (pv 1) po_none (po_some pe_int))
    (pe_comp (N := ["word"]) (idx := []) rfl (ScC.of (by kernel_rfl)) (gkeep_name (Nat.zero_le _)) (pi_list (pe_slice sl_list (pv 1) (po_some pe_int) po_none))
     (fun _ _ _ _ => pg_name (i := 0) nd_word rfl (Or.inl rfl) (.inr rfl)) (fun _ _ _ _ => pts_nil) (fun _ _ _ _ => pe_call GN hr rfl mN kN bN .nil pass0 (pa_cons (pv 0) pa_nil)))) pa_nil)))), ?_⟩
  obtain ⟨few1, few2⟩ := split_few rw_ 32
  have hasc : ∀ x ∈ Txt.split rw_ (one 32), Asc x := fun x hx => split_asc ha hx
  refine ⟨_, rfl, rfl, _, _, rfl, rfl, by rw [bl32]; rfl, by omega, fun p hp => ?_⟩
  rw [bl32]
  have eT : toldR rw_ = toldW (Txt.split rw_ (one 32)) := rfl
  cases es : Txt.split rw_ (one 32) with
  | nil => exact absurd es (split_ne _ _)
  | cons w1 ws =>
   rw [es] at few1 few2 hasc eT
   have eT' : toldR rw_ = .str w1 :: ws.map wordV := eT
   rw [List.length_cons] at few2
   have ep : (w1 :: ws).map V.str = .str w1 :: ws.map V.str := rfl
   rw [ep]
   have s0 : Same H (upd H p (.lst (.str w1 :: ws.map V.str))) := same_new (Same.refl H) hp
   refine ⟨_, rfl, _, rfl, p, _, rfl, SqL.of upd_same, fun p1 hp1 => ?_⟩
   rw [cut0]
   have s1 := same_new (o := .lst [.str w1]) (Same.refl _) hp1
   refine ⟨_, rfl, _, rfl, p, _, rfl, SqL.of (s1 _ _ upd_same), fun p2 hp2 => ?_⟩
   rw [cut1]
   have s2 := same_new (o := .lst (ws.map V.str)) (Same.refl _) hp2
   have h1 := s2 _ _ (upd_same (H := upd H p (.lst (.str w1 :: ws.map V.str))) (a := p1) (o := .lst [.str w1]))
   have h2 := upd_same (H := upd (upd H p (.lst (.str w1 :: ws.map V.str))) p1 (.lst [.str w1])) (a := p2) (o := .lst (ws.map V.str))
   have s3 := (s0.trans s1).trans s2
   generalize upd (upd (upd H p (.lst (.str w1 :: ws.map V.str))) p1 (.lst [.str w1])) p2 (.lst (ws.map V.str)) = H3 at h1 h2 s3 ⊢
   refine ⟨p2, rfl, ⟨_, SqL.of h2⟩, ?_⟩
   refine compW_of (n := ws.length) (fun i ys H' => i ≤ ws.length ∧ Same H3 H' ∧ ys = (ws.take i).map wordV) ?_ ?_ ?_ ?_ ?_ ?_ ?_
   ·exact Nat.le_of_lt (small1000 (by omega))
   ·exact ⟨Nat.zero_le _, Same.refl _, rfl⟩
   ·rintro i ys H' ⟨_, _, e⟩
    rw [e, List.length_map, List.length_take]
    omega
   ·rintro i ys H' hi ⟨_, s4, _⟩
    exact ⟨_, (ws.map V.str)[i]'(by simpa using hi), SqL.of (s4 _ _ h2), List.getElem?_eq_getElem _⟩
   ·rintro ys H' ⟨_, s4, _⟩
    exact ⟨_, SqL.of (s4 _ _ h2), by simp⟩
   ·rintro i ys H' hi ⟨_, s4, e⟩ x H'' ⟨eH, hx1⟩
    subst eH
    have hx := hx1 _ (SqL.of (s4 _ _ h2))
    have hi2 : ws[i]? = some ws[i] := List.getElem?_eq_getElem hi
    rw [List.getElem?_map, hi2] at hx
    cases hx
    have hmem : ws[i] ∈ w1 :: ws := List.mem_cons_of_mem _ (List.getElem_mem hi)
    refine ⟨_, rfl, ws[i], rfl, hasc _ hmem, by have := few1 _ hmem; omega, fun H5 s5 => ⟨hi, s4.trans s5, ?_⟩⟩
    rw [List.take_add_one, hi2, List.map_append, ← e]
    rfl
   ·rintro ys H' ⟨_, s4, e⟩
    refine ⟨?_, fun r hr0 => ?_⟩
    ·rw [e, List.length_map, List.length_take]
     exact Nat.le_of_lt (small1000 (by omega))
    rw [List.take_of_length_le (Nat.le_refl _)] at e
    have s5 := same_new (o := .lst ys) s4 hr0
    refine ⟨p1, r, [.str w1], ys, rfl, rfl, s5 _ _ h1, upd_same, ?_, fun q hq => ?_⟩
    ·rw [e, List.length_map]
     exact Nat.le_of_lt (small1000 (by simp; omega))
    have s6 := same_new (o := .lst ([.str w1] ++ ys)) s5 hq
    refine ⟨q, _, rfl, .inl ⟨SqL.of upd_same, fun q2 hq2 => k _ _ ((s3.trans s6).trans (same_new (Same.refl _) hq2)) ?_⟩⟩
    rw [upd_same, e, eT']
    rfl
end
end TL
namespace TL
open PySem PySem.Spec PyProof.Rows PySem.SeqAt L2 L3 L4
def IsToldR (H : Hp) (v : V) (r : Str) : Prop := ∃ a, v = .ref a ∧ H a = some (.tup (toldR r))
def IsPartR (H : Hp) (v : V) (p : List Str) : Prop := ∃ a vs, v = .ref a ∧ H a = some (.tup vs) ∧ Paired (IsToldR H) vs p
def IsProgR (H : Hp) (v : V) (D : List (List Str)) : Prop := ∃ a vs, v = .ref a ∧ H a = some (.tup vs) ∧ Paired (IsPartR H) vs D
def IsOpenR (H : Hp) (a : Addr) (q : List Str) : Prop := ∃ tvs, H a = some (.lst tvs) ∧ Paired (IsToldR H) tvs q
theorem IsToldR.same {H H' : Hp} {v : V} {t : Str} (s : Same H H') (h : IsToldR H v t) : IsToldR H' v t := by
 obtain ⟨a, e, h⟩ := h
 exact ⟨a, e, s _ _ h⟩
theorem IsPartR.same {H H' : Hp} {v : V} {p : List Str} (s : Same H H') (h : IsPartR H v p) : IsPartR H' v p := by
 obtain ⟨a, vs, e, h, r⟩ := h
 exact ⟨a, vs, e, s _ _ h, Paired.mapP r fun _ _ q => q.same s⟩
theorem toldR_upd {H : Hp} {v : V} {t : Str} {l : Addr} {o : HO} (h : IsToldR H v t) (hl : ∀ xs, H l ≠ some (.tup xs)) : IsToldR (upd H l o) v t := by
 obtain ⟨a, e, h⟩ := h
 refine ⟨a, e, ?_⟩
 rw [upd_ne fun z => hl _ (z ▸ h)]
 exact h
theorem openR_upd {H : Hp} {a l : Addr} {q : List Str} {o : HO} (h : IsOpenR H a q) (ne : a ≠ l) (hl : ∀ xs, H l ≠ some (.tup xs)) : IsOpenR (upd H l o) a q := by
 obtain ⟨tvs, e, r⟩ := h
 refine ⟨tvs, ?_, Paired.mapP r fun _ _ q => toldR_upd q hl⟩
 rw [upd_ne ne]
 exact e
theorem IsOpenR.same {H H' : Hp} {a : Addr} {q : List Str} (s : Same H H') (h : IsOpenR H a q) : IsOpenR H' a q := by
 obtain ⟨tvs, e, r⟩ := h
 exact ⟨tvs, s _ _ e, Paired.mapP r fun _ _ q => q.same s⟩
structure Rd2 (H H' : Hp) (l : Addr) (D : List (List Str)) : Prop where
 same : Same H H'
 hl : H l = none
 ex : ∃ as : List Addr, H' l = some (.lst (as.map V.ref)) ∧ Paired (IsOpenR H') as D ∧ as.Nodup ∧ l ∉ as ∧ ∀ a ∈ as, H a = none
structure RowsOk (rs : List Str) : Prop where
 few : rs.length ≤ 120
 row : ∀ r ∈ rs, Asc r ∧ r.length ≤ 900
section
variable {P : Program} {w : World} {K : W.Frag} {mg : Str → Option Value} {base : Heap}
def spPartsG : Sp := fun vs H Q E => ∃ a rs, vs = [.ref a] ∧ H a = some (.lst (rs.map V.str)) ∧ RowsOk rs ∧ (partsTo rs = none → ∀ H', Same H H' → E (.ref chNT) none H') ∧ ∀ D, partsTo rs = some D → ∀ v H', Same H H' → IsProgR H' v D → Q v H'
theorem ok_PartsG {f fT : Addr} {fd fdT : FuncData} (F : Fun K "parts_of" "parts_of" sPartsOf f fd) (B : Bl mg) (T : Tx mg) (GT : FnOk P w K mg base CX0 3 fT fdT ["row"] spToldG) (kT : W.keepIn K (.ref fT) = true) (bT : Binds K fdT ["row"] []) (mT : mg "told_of" = some (.ref fT))
  (xc : XC K chNT) (mX : mg "NoText" = some (.ref chNT)) : FnOk P w K mg base (CXE P w) 4 f fd ["rows"] spPartsG := by
 obtain ⟨uH, mH, rH⟩ := T.head
 refine F.okX scParts (fun vs H Q E h => ?_) (fun cdv A outer s H vs Q E hr hL hpO h => ?_)
 ·obtain ⟨a, ps, rfl, _⟩ := h
  rfl
 ·obtain ⟨a, rs, rfl, ha, hg, kx, k⟩ := h
  refine ⟨_, pss_cons (ps_set (i := 1) scParts.nd rfl (Or.inl rfl) (pe_lst pa_nil))
   (pss_cons (ps_for hpO rfl (pi_list (pv 0)) (pg_name (i := 2) scParts.nd rfl (Or.inl rfl))
    (pss_one (ps_if (pt_cmpR op_eq (pv 2) (pe_glob rfl mH rH) (nomark _))
     (pss_one (ps_expr (pe_bm PySem.F.plainAttrs_list PySem.F.slot_list_append PySem.F.type_list_append mt_append (pv 1) (pa_cons (pe_lst pa_nil) pa_nil))))
     (pss_one (ps_if (pt_cmpR op_eq (pe_callB call_len_seq rfl B.len PySem.boot_len (pa_cons (pv 1) pa_nil)) pe_int (nomark _)) (pss_one (ps_raise rfl hL xc rfl mX (pa_cons pe_str pa_nil)))
      (pss_one (ps_expr (pe_bm PySem.F.plainAttrs_list PySem.F.slot_list_append PySem.F.type_list_append mt_append (pe_ix ix_list (pv 1) (pe_un un_neg pe_int) (fun _ _ => rfl)) (pa_cons (pe_call GT hr rfl mT kT bT .nil pass0 (pa_cons (pv 2) pa_nil)) pa_nil)))))))))
   (pss_one (ps_ret (pe_callTy call_tuple_of rfl B.tuple boot_tuple (pa_cons (pe_comp (N := ["part"]) (idx := []) rfl (ScC.of (by kernel_rfl)) (gkeep_name (Nat.zero_le _)) (pi_list (pv 1))
    (fun _ _ _ _ => pg_name (i := 0) nd_part rfl (Or.inl rfl) (.inr rfl)) (fun _ _ _ _ => pts_nil) (fun _ _ _ _ => pe_callTy (tuple_K K) rfl B.tuple boot_tuple (pa_cons (pv 0) pa_nil))) pa_nil))))), ?_⟩
  have hrl : (rs.map V.str).length = rs.length := List.length_map _
  have hsz := hg.few
  refine ⟨by decide, fun l hl => ?_⟩
  refine ⟨_, rfl, a, rfl, ⟨_, SqL.of (same_new (Same.refl H) hl _ _ ha)⟩, for_list (xs := rs.map V.str) (fun i σ H' => ∃ x D, σ = [some (.ref a), some (.ref l), x] ∧ partsTo (rs.take i) = some D ∧ Rd2 H H' l D)
   ⟨none, [], rfl, rfl, same_new (Same.refl H) hl, hl, [], upd_same, .nil, List.nodup_nil, by simp, by simp⟩ (fun i σ H' _ ⟨_, _, _, _, r⟩ => SqL.of (r.same _ _ ha)) ?_ ?_⟩
  ·rintro i x σ H1 hx ⟨_, D, rfl, eD0, ⟨s1, _, as, hH, hpr, hnd, hla, hnew⟩⟩
   have hlt : i < rs.length := by
    have := (List.getElem?_eq_some_iff.mp hx).1
    omega
   have ho : rs[i]? = some rs[i] := List.getElem?_eq_getElem hlt
   have hgo := hg.row _ (List.getElem_mem hlt)
   have hal : as.length = D.length := Paired.length hpr
   obtain ⟨_, hDl, hDp⟩ := partsTo_flat _ _ _ rfl eD0
   rw [List.length_take] at hDl hDp
   have hx2 : x = .str rs[i] := by
    rw [List.getElem?_map, ho] at hx
    cases hx
    rfl
   subst hx2
   have hsu := partsTo_succ ho
   rw [eD0] at hsu
   generalize rs[i] = r at ho hgo hsu ⊢
   have hsu' : partsTo (rs.take (i + 1)) = put1R D r := hsu
   unfold put1R at hsu'
   refine ⟨_, rfl, rfl, _, rfl, ?_⟩
   refine iteD (fun hc => ?_) (fun hc => ?_)
   ·rw [if_pos (str_inj hc)] at hsu'
    refine ⟨_, rfl, .inl ⟨rfl, _, SqL.of hH⟩, by decide, fun p hp => ?_⟩
    have hpl : p ≠ l := fun z => by rw [z, hH] at hp; cases hp
    refine ⟨l, as.map V.ref, .ref p, rfl, rfl, by rw [upd_ne (Ne.symm hpl)]; exact hH, small1000 (by rw [List.length_map]; omega), _, _, rfl, hsu', ?_⟩
    have ntp := none_notup hp
    have ntl : ∀ ys, upd H1 p (.lst []) l ≠ some (.tup ys) := lst_notup (by rw [upd_ne (Ne.symm hpl)]; exact hH)
    refine ⟨same_upd (same_new s1 hp) hl, hl, as ++ [p], ?_, ?_, ?_, ?_, ?_⟩
    ·rw [upd_same, List.map_append]; rfl
    ·refine Paired.snoc (Paired.imp_mem hpr fun b hb q hq => ?_) ⟨[], ?_, .nil⟩
     ·have nbl : b ≠ l := fun z => hla (z ▸ hb)
      have nbp : b ≠ p := by
       obtain ⟨_, e, _⟩ := hq
       exact ne_of_none e hp
      exact openR_upd (openR_upd hq nbp ntp) nbl ntl
     ·rw [upd_ne hpl]; exact upd_same
    ·rw [List.nodup_append]
     refine ⟨hnd, by simp, fun b hb c hc => ?_⟩
     rw [List.mem_singleton] at hc
     subst hc
     intro z
     subst z
     obtain ⟨y, _, _, e, _⟩ := mem_paired hpr hb
     rw [e] at hp; cases hp
    ·intro z
     rcases List.mem_append.mp z with h | h
     ·exact hla h
     ·rw [List.mem_singleton] at h; exact hpl h.symm
    ·intro b hb
     rcases List.mem_append.mp hb with h | h
     ·exact hnew b h
     ·rw [List.mem_singleton] at h
      rw [h]
      exact s1.free hp
   ·rw [if_neg (fun z => hc (by rw [z]))] at hsu'
    refine ⟨_, rfl, l, _, rfl, .inl (SqL.of hH), rfl, _, rfl, iteD (fun z => ?_) (fun z => ?_)⟩
    ·have z' : V.int ((as.map V.ref).length : Int) = V.int 0 := z
     injection z' with z'
     rw [List.length_map] at z'
     have eD : D = [] := List.length_eq_zero_iff.mp (by omega)
     rw [if_pos eD] at hsu'
     exact ⟨by show 1 ≤ sizeLine; decide, kx (partsTo_none hsu') H1 s1⟩
    have hDne : D ≠ [] := fun e => z (by
     rw [e] at hal
     show V.int ((as.map V.ref).length : Int) = V.int 0
     rw [List.length_map, hal]
     rfl)
    rw [if_neg hDne] at hsu'
    obtain ⟨as0, b, D0, q, eas, eD, hp0, hbq⟩ := Paired.snoc_inv hpr hDne
    have hat : atI (as.map V.ref) (-1) = some (.ref b) := by
     rw [eas, List.map_append]
     exact atI_last _ _
    obtain ⟨tvs, hbv, htv⟩ := id hbq
    refine ⟨_, rfl, _, rfl, l, _, _, _, rfl, rfl, SqL.of hH, hat, .inl ⟨rfl, _, SqL.of hbv⟩, _, rfl, r, rfl, hgo.1, hgo.2, fun v H2 s2 hv => ?_⟩
    have hbl : b ≠ l := fun z => hla (by rw [eas, ← z]; simp)
    have hb2 := s2 _ _ hbv
    have hq5 : q.length ≤ i := by have := (hDp q (by rw [eD]; simp)).1; omega
    refine ⟨b, tvs, .ref v, rfl, rfl, hb2, small1000 ?_, _, _, rfl, hsu', ?_⟩
    ·have := Paired.length htv
     omega
    have eP : D.dropLast ++ [D.getLast?.getD [] ++ [r]] = D0 ++ [q ++ [r]] := by rw [eD]; simp
    rw [eP]
    have ntb := lst_notup hb2
    refine ⟨same_upd (s1.trans s2) (hnew b (by rw [eas]; simp)), hl, as, ?_, ?_, hnd, hla, hnew⟩
    ·rw [upd_ne (Ne.symm hbl)]; exact s2 _ _ hH
    ·rw [eas]
     refine Paired.snoc (Paired.imp_mem hp0 fun c hc q' hq' => ?_) ⟨tvs ++ [.ref v], upd_same, ?_⟩
     ·have ncb : c ≠ b := by
       rw [eas, List.nodup_append] at hnd
       exact hnd.2.2 c hc b (by simp)
      exact openR_upd (hq'.same s2) ncb ntb
     ·exact Paired.snoc (Paired.mapP htv fun _ _ q => toldR_upd (q.same s2) ntb) (toldR_upd ⟨v, rfl, hv⟩ ntb)
  ·rintro σ H1 ⟨x, D, rfl, eD0, ⟨s1, _, as, hH, hpr, hnd, hla, hnew⟩⟩
   rw [hrl, List.take_length] at eD0
   have hal : as.length = D.length := Paired.length hpr
   obtain ⟨_, hDl, hDp⟩ := partsTo_flat _ _ _ rfl eD0
   refine ⟨_, rfl, l, rfl, ⟨_, SqL.of hH⟩, ?_⟩
   refine compW_of (n := as.length) (fun i ys H' => Same H1 H' ∧ i ≤ as.length ∧ Paired (IsPartR H') ys (D.take i)) ?_ ?_ ?_ ?_ ?_ ?_ ?_
   ·exact Nat.le_of_lt (small1000 (by omega))
   ·exact ⟨Same.refl _, Nat.zero_le _, .nil⟩
   ·rintro i ys H' ⟨_, _, e⟩
    rw [Paired.length e, List.length_take]
    omega
   ·rintro i ys H' hi ⟨s2, _, _⟩
    exact ⟨_, .ref as[i], SqL.of (s2 _ _ hH), by rw [List.getElem?_map, List.getElem?_eq_getElem hi]; rfl⟩
   ·rintro ys H' ⟨s2, _, _⟩
    exact ⟨_, SqL.of (s2 _ _ hH), by rw [List.length_map]; exact Nat.le_refl _⟩
   ·rintro i ys H' hi ⟨s2, _, e⟩ y H'' ⟨eH, hy1⟩
    subst eH
    have hy := hy1 _ (SqL.of (s2 _ _ hH))
    rw [List.getElem?_map, List.getElem?_eq_getElem hi] at hy
    cases hy
    obtain ⟨q, hq, tvs, hbv, htv⟩ := Paired.at' hpr (List.getElem?_eq_getElem hi)
    refine ⟨_, rfl, as[i], tvs, rfl, .inl ⟨SqL.of (s2 _ _ hbv), fun r hr0 => ⟨same_new s2 hr0, hi, ?_⟩⟩⟩
    rw [List.take_add_one, hq]
    exact Paired.snoc (Paired.mapP e fun _ _ z => z.same (same_new (Same.refl _) hr0)) ⟨r, tvs, rfl, upd_same, Paired.mapP htv fun _ _ z => z.same (same_new s2 hr0)⟩
   ·rintro ys H' ⟨s2, _, e⟩
    rw [hal, List.take_of_length_le (Nat.le_refl _)] at e
    refine ⟨by rw [Paired.length e]; exact Nat.le_of_lt (small1000 (by omega)), fun r hr0 => ?_⟩
    refine ⟨r, ys, rfl, .inl ⟨SqL.of upd_same, fun q hq => ?_⟩⟩
    have s3 := same_new (o := .lst ys) (Same.refl H') hr0
    have s4 := same_new (o := .tup ys) s3 hq
    exact k D eD0 _ _ ((s1.trans s2).trans s4) ⟨q, ys, rfl, upd_same, Paired.mapP e fun _ _ z => z.same s4⟩
end
theorem toldR_len (r : Str) : (toldR r).length ≤ r.length + 1 := by
 have h := (split_few r 32).2
 unfold toldR
 cases e : Txt.split r (one 32) with
 | nil => simp [toldW]
 | cons w ws =>
  rw [e] at h
  show (V.str w :: ws.map wordV).length ≤ _
  rw [List.length_cons, List.length_map]
  exact h
theorem asc_strOk {x : Str} (h : Asc x) : PyData.strOk x = true := by
 unfold PyData.strOk
 rw [← Array.all_toList, List.all_eq_true]
 intro c hc
 have := h c hc
 rw [decide_eq_true_eq]
 omega
theorem toldR_flat {r : Str} (ha : Asc r) : ∀ x ∈ toldR r, flatTy x = true := by
 unfold toldR
 cases e : Txt.split r (one 32) with
 | nil => intro x hx; cases hx
 | cons w ws =>
  intro x hx
  rcases List.mem_cons.mp (show x ∈ V.str w :: ws.map wordV from hx) with z | z
  ·rw [z]
   exact asc_strOk (split_asc ha (by rw [e]; simp))
  ·obtain ⟨y, _, rfl⟩ := List.mem_map.mp z
   unfold wordV
   split <;> rfl
theorem IsToldR.told {H : Hp} {v : V} {r : Str} (h : IsToldR H v r) (ha : Asc r) (hl : r.length ≤ 900) : Told H v := by
 obtain ⟨a, rfl, h⟩ := h
 exact told_tup h (by have := toldR_len r; omega) (toldR_flat ha)
theorem IsToldR.fits {H : Hp} {v : V} {r : Str} {i n : Int} (h : IsToldR H v r) : fitsM H v i n = fitR n i r := by
 obtain ⟨a, rfl, h⟩ := h
 unfold fitsM fitR isStep skipFar
 rw [viewT_of h]
 have e : ∀ xs : List V, (match some xs with | some [.str x, _, .int q] => decide (x = "skip") && decide (n < q) | _ => false) = farV n xs := by
  intro xs
  rcases xs with _ | ⟨a, _ | ⟨b, _ | ⟨c, _ | ⟨d, t⟩⟩⟩⟩
  ·rfl
  ·cases a <;> rfl
  ·cases a <;> rfl
  ·cases a <;> cases c <;> rfl
  ·cases a <;> cases c <;> rfl
 rw [← e] <;>
 rfl
theorem badIn_all {H : Hp} {n : Int} : ∀ {vs : List V} {c : Nat}, badIn H n c vs = none → ∀ (i : Nat) v, vs[i]? = some v → fitsM H v ((c + i : Nat) : Int) n = true
 | [], _, _, i, v, e => by simp at e
 | x :: vs, c, h, i, v, e => by
  have h' : (if fitsM H x c n = true then badIn H n (c + 1) vs else some c) = none := h
  by_cases hf : fitsM H x c n = true
  ·rw [if_pos hf] at h'
   cases i with
   | zero =>
    have e' : x = v := by simpa using e
    rw [← e', Nat.add_zero]
    exact hf
   | succ i =>
    have e' : vs[i]? = some v := by simpa using e
    have := badIn_all h' i v e'
    have ee : c + (i + 1) = c + 1 + i := by omega
    rw [ee]
    exact this
  ·rw [if_neg hf] at h'; cases h'
theorem firstBad_all {H : Hp} : ∀ {vs : List V} {c : Nat}, firstBad H c vs = none → ∀ x ∈ vs, badIn H (partV H x).length 0 (partV H x) = none
 | [], _, _, x, hx => by cases hx
 | y :: vs, c, h, x, hx => by
  have h' : (match badIn H (partV H y).length 0 (partV H y) with | some p => some (c, p) | none => firstBad H (c + 1) vs) = none := h
  cases e : badIn H (partV H y).length 0 (partV H y) with
  | some p => rw [e] at h'; cases h'
  | none =>
   rw [e] at h'
   rcases List.mem_cons.mp hx with z | z
   ·rw [z]; exact e
   ·exact firstBad_all h' x z
theorem Paired.at2 {α β : Type} {F : α → β → Prop} : ∀ {l : List α} {m : List β} {i : Nat} {y : β}, Paired F l m → m[i]? = some y → ∃ x, l[i]? = some x ∧ F x y
 | _, _, _, _, .nil, h => by simp at h
 | _, _, 0, _, .cons h _, e => by
  simp only [List.getElem?_cons_zero, Option.some.injEq] at e
  subst e
  exact ⟨_, rfl, h⟩
 | _, _, i + 1, _, .cons _ t, e => by
  rw [List.getElem?_cons_succ] at e ⊢
  exact Paired.at2 t e
theorem progR_look {H : Hp} {v : V} {D : List (List Str)} (h : IsProgR H v D) (hl : D.length ≤ 1000) (hp : ∀ p ∈ D, p.length ≤ 1000 ∧ ∀ r ∈ p, Asc r ∧ r.length ≤ 900) : Prog2 H v ∧ ∃ xs, viewT H v = some xs ∧
  (hasM H v = true → firstBad H 0 xs = none → 1 ≤ D.length ∧ D.length ≤ 4 ∧ ∀ p ∈ D, ∀ (i : Nat) r, p[i]? = some r → fitR p.length i r = true) := by
 obtain ⟨a, vs, rfl, ha, hr⟩ := h
 have hlen := Paired.length hr
 refine ⟨⟨⟨_, tyName_tup ha⟩, fun xs e => ?_⟩, vs, viewT_of ha, fun hM hb0 => ?_⟩
 ·rw [viewT_of ha] at e
  cases e
  refine ⟨by omega, fun x hx => ?_⟩
  obtain ⟨p, hpm, b, ts, rfl, hb, hts⟩ := mem_paired hr hx
  obtain ⟨h1, h2⟩ := hp p hpm
  have hl2 := Paired.length hts
  refine ⟨⟨_, tyName_tup hb⟩, fun ys e => ?_⟩
  rw [viewT_of hb] at e
  cases e
  refine ⟨by omega, fun y hy => ?_⟩
  obtain ⟨r, hrm, hry⟩ := mem_paired hts hy
  exact hry.told (h2 r hrm).1 (h2 r hrm).2
 ·unfold hasM at hM
  rw [viewT_of ha] at hM
  have hM' : ((decide (1 ≤ vs.length) && decide (vs.length ≤ 4)) && vs.all fun x => (viewT H x).isSome) = true := hM
  rw [Bool.and_eq_true, Bool.and_eq_true, decide_eq_true_eq, decide_eq_true_eq] at hM'
  refine ⟨by omega, by omega, fun p hpm i r hi => ?_⟩
  obtain ⟨j, hj, ej⟩ := List.getElem_of_mem hpm
  obtain ⟨x, hx, b, ts, rfl, hb, hts⟩ := Paired.at2 hr (show D[j]? = some p by rw [List.getElem?_eq_getElem hj, ej])
  have hfb := firstBad_all hb0 (.ref b) (List.mem_of_getElem? hx)
  have ep : partV H (.ref b) = ts := by unfold partV; rw [viewT_of hb]; rfl
  rw [ep, Paired.length hts] at hfb
  obtain ⟨y, hy, hyr⟩ := Paired.at2 hts hi
  have := badIn_all hfb i y hy
  rw [hyr.fits, Nat.zero_add] at this
  exact this
end TL
namespace TL
open PySem PySem.Spec PyProof.Rows PySem.SeqAt L2 L3 L4
structure XR (K : PySem.W.Frag) (cC cP : Addr) : Prop where
 nC : cC ≠ chNT
 nP : cP ≠ chNT
 bC : PySem.W.kitCls K (.ref cC) (.type "BaseException") = some true
 bP : PySem.W.kitCls K (.ref cP) (.type "BaseException") = some true
 cc : PySem.W.kitCls K (.ref cC) (.ref cC) = some true
 pc : PySem.W.kitCls K (.ref cP) (.ref cC) = some false
 pp : PySem.W.kitCls K (.ref cP) (.ref cP) = some true
section
variable {P : Program} {w : World} {K : PySem.W.Frag} {mg : Str → Option Value} {base : Heap}
def BadText (H : Hp) (v : V) : Prop := (∃ T, tyName H v = some T ∧ isiB T "str" = false) ∨ ∃ x, v = .str x ∧ x.length ≤ 1000000 ∧ RowsOk (Txt.split x (one 10)) ∧ ¬ PGood (Txt.split x (one 10))
def spReadX : Sp := fun vs H Q E => ∃ v, vs = [v] ∧ BadText H v ∧ ∀ H', Same H H' → E (.ref chNT) none H'
theorem ok_ReadX {f fP fL cC cP : Addr} {fd fdP fdL : FuncData} (F : Fun K "read_program" "read_program" sReadP f fd) (B : Bl mg) (GP : FnOk P w K mg base (CXE P w) 4 fP fdP ["rows"] spPartsG) (kP : PySem.W.keepIn K (.ref fP) = true) (bP : Binds K fdP ["rows"] []) (mP : mg "parts_of" = some (.ref fP))
  (GL : FnOk P w K mg base (CXE P w) 6 fL fdL ["program"] (spLook cC cP)) (kL : PySem.W.keepIn K (.ref fL) = true) (bL : Binds K fdL ["program"] []) (mL : mg "look_over" = some (.ref fL))
  (xc : XC K chNT) (mX : mg "NoText" = some (.ref chNT)) (mC : mg "NoClerks" = some (.ref cC)) (mNP : mg "NoProgram" = some (.ref cP)) (xr : XR K cC cP) :
  FnOk P w K mg base (CXE P w) 7 f fd ["text"] spReadX := by
 refine F.okX scRead (fun vs H Q E h => ?_) (fun cdv A outer s H vs Q E hr hL hpO h => ?_)
 ·obtain ⟨ps, rfl, _⟩ := h
  rfl
 ·obtain ⟨v, rfl, hv, k⟩ := h
  refine ⟨_, pss_cons (ps_if (pt_not (pt_val (pe_callB call_isi rfl B.isi boot_isinstance (pa_cons (pv 0) (pa_cons (pe_bltn (v := .ty "str") rfl B.str boot_str rfl) pa_nil))))) (pss_one (ps_raise rfl hL xc rfl mX (pa_cons pe_str pa_nil))) pss_nil)
   (pss_cons (ps_set (i := 1) scRead.nd rfl (Or.inl rfl) (pe_callX GP (hr.mono (by decide)) hL rfl mP kP bP .nil (pa_cons (pe_bm PySem.F.plainAttrs_str PySem.F.slot_str_split PySem.F.type_str_split mt_split (pv 0) (pa_cons pe_str pa_nil)) pa_nil)))
   (pss_cons (ps_tryR2 rfl rfl hL (fun _ => PassesOwnAt.leaving) rfl mC xr.bC rfl mNP xr.bP xc rfl mX (fun W pn E hL hp => pss_one (ps_expr (pe_callX GL hr hL rfl mL kL bL .nil (pa_cons (pv 1) pa_nil)))) (fun _ _ => pa_cons pe_str pa_nil) (fun σ H Q q => q _ (by show 1 ≤ sizeLine; decide)) (fun _ _ => pa_cons pe_str pa_nil) (fun σ H Q q => q _ (by show 1 ≤ sizeLine; decide)))
   (pss_one (ps_ret (pv 1))))), ?_⟩
  rcases hv with ⟨T, hT, hn⟩ | ⟨x, rfl, hl, hR, hN⟩
  ·refine ⟨_, rfl, _, _, _, _, _, rfl, tyT hT, rfl, kitU hT (by decide), _, rfl, ?_⟩
   rw [hn]
   exact iteT ⟨by show 1 ≤ sizeLine; decide, k H (Same.refl H)⟩
  ·have hT : tyName H (.str x) = some "str" := rfl
   refine ⟨_, rfl, _, _, _, _, _, rfl, tyT hT, rfl, kitU hT (by decide), _, rfl, iteF ?_⟩
   refine ⟨_, rfl, rfl, _, _, rfl, rfl, by rw [nl10]; rfl, by omega, fun p hp => ?_⟩
   rw [nl10]
   have s0 := same_new (o := .lst ((Txt.split x (one 10)).map V.str)) (Same.refl H) hp
   refine ⟨p, _, rfl, upd_same, hR, fun hn H1 s1 => k H1 (s0.trans s1), fun D hD v H1 s1 hv => ?_⟩
   obtain ⟨_, hDl, hDp⟩ := partsTo_flat _ _ _ rfl hD
   have few := hR.few
   obtain ⟨hp2, xs, hvw, hgood⟩ := progR_look hv (by omega) fun q hq => ⟨by have := (hDp q hq).1; omega, fun r hr => hR.row r ((hDp q hq).2 r hr).1⟩
   refine ⟨_, rfl, v, rfl, hp2, fun hM H2 s2 => ?_, fun hM xs' hv' => ⟨fun hb H2 s2 => ?_, fun c p hb d H2 s2 hd => ?_⟩⟩
   ·exact ⟨fun z => xr.nC (by cases z; rfl), .inl xr.cc, k H2 ((s0.trans s1).trans s2)⟩
   ·rw [hvw] at hv'
    cases hv'
    obtain ⟨h1, h4, hf⟩ := hgood hM hb
    exact absurd ⟨D, hD, h1, h4, hf⟩ hN
   ·exact ⟨fun z => xr.nP (by cases z; rfl), .inr ⟨xr.pc, xr.pp⟩, k H2 ((s0.trans s1).trans s2)⟩
end
end TL
namespace L2
open PySem PySem.Spec PyProof.Rows
section
variable {X : Cx} {e : Expr} {es : List Expr}
theorem PE.imp {t t' : TE} (h : PE X e t) (hi : ∀ σ H Q, t' σ H Q → t σ H Q) : PE X e t' := fun pins s σ H Q I q => h pins s σ H Q I (hi σ H Q q)
theorem PA.imp {t t' : TA} (h : PA X es t) (hi : ∀ σ H Q, t' σ H Q → t σ H Q) : PA X es t' := fun pos pins s σ H Q I q => h pos pins s σ H Q I (hi σ H Q q)
theorem PSs.imp {ss : List Stmt} {t t' : TS} (h : PSs X ss t) (hi : ∀ D σ H, t' D σ H → t D σ H) : PSs X ss t' := fun pins s σ H D I q => h pins s σ H D I (hi D σ H q)
end
end L2
namespace TL
open PySem PySem.Spec PyProof.Rows PySem.SeqAt L2 L3 L4
def cellM (ns : List Int) (k : Int) : Int := ns.getD k.toNat 0
def mixN (c k : Int) : Int := (c % 2147483647 + 7919 * k + 1) * 48271 % 2147483647
def mixedM (c k : Int) : Int := mixN c k * (mixN c k / 1009 + 69621) % 2147483647
theorem mixN_b (c k : Int) : 0 ≤ mixN c k ∧ mixN c k < 2147483647 := ⟨Int.emod_nonneg _ (by decide), Int.emod_lt_of_pos _ (by decide)⟩
section
variable {P : Program} {w : World} {K : W.Frag} {mg : Str → Option Value} {base : Heap}
def spCell (K : W.Frag) : Sp := fun vs H Q _ => ∃ a ns k, vs = [.ref a, .int k] ∧ SqL K H a (ns.map V.int) ∧ 0 ≤ k ∧ Q (.int (cellM ns k)) H
theorem scCell : FnScope ["_law_script", "_law_k"] ["_law_script", "_law_k"] (defScope sCellAt) := ⟨rfl, rfl, rfl, by decide +kernel, rfl, by decide +kernel, by decide +kernel⟩
theorem ok_cell {f : Addr} {fd : FuncData} (F : Fun K "_law_cell_at" "_law_cell_at" sCellAt f fd) (hln : mg "len" = none) : FnOk P w K mg base CX0 1 f fd ["_law_script", "_law_k"] (spCell K) := by
 refine F.ok scCell (fun vs H Q E h => ?_) (fun cdv A outer s H vs Q E hr h => ?_)
 ·obtain ⟨a, ns, k, rfl, _⟩ := h
  rfl
 ·obtain ⟨a, ns, j, rfl, ha, hj, k⟩ := h
  refine ⟨_, pss_cons (ps_if (pt_cmpR op_lt (pv 1) (pe_callB call_len_seq rfl hln PySem.boot_len (pa_cons (pv 0) pa_nil)) (nomark _)) (pss_one (ps_ret (pe_ix ix_list (pv 0) (pv 1) (fun _ _ => rfl)))) pss_nil) (pss_one (ps_ret pe_int)), ?_⟩
  refine ⟨_, rfl, _, rfl, a, _, rfl, .inl ha, _, _, rfl, rfl, _, rfl, iteD (fun h1 => ?_) (fun h1 => ?_)⟩
  ·rw [List.length_map] at h1
   have hlt : j.toNat < ns.length := by omega
   refine ⟨_, rfl, _, rfl, a, _, j, .int (cellM ns j), rfl, rfl, ha, ?_, k⟩
   have e : j = (j.toNat : Int) := by omega
   rw [e]
   refine atI_nat ?_
   rw [List.getElem?_map, List.getElem?_eq_getElem hlt]
   unfold cellM
   rw [Int.toNat_natCast, List.getD_eq_getElem?_getD, List.getElem?_eq_getElem hlt]
   rfl
  ·rw [List.length_map] at h1
   have e : cellM ns j = 0 := by
    unfold cellM
    rw [List.getD_eq_getElem?_getD, List.getElem?_eq_none (by omega)]
    rfl
   rw [e] at k
   exact k
def spMix : Sp := fun vs H Q _ => ∃ c j, vs = [.int c, .int j] ∧ Q (.int (mixedM c j)) H
theorem scMix : FnScope ["_law_cell", "_law_k", "_law_number"] ["_law_cell", "_law_k"] (defScope sMixed) := ⟨rfl, rfl, rfl, by decide +kernel, rfl, by decide +kernel, by decide +kernel⟩
theorem ok_mix {f : Addr} {fd : FuncData} (F : Fun K "_law_mixed" "_law_mixed" sMixed f fd) : FnOk P w K mg base CX0 1 f fd ["_law_cell", "_law_k"] spMix := by
 refine F.ok scMix (fun vs H Q E h => ?_) (fun cdv A outer s H vs Q E hr h => ?_)
 ·obtain ⟨a, j, rfl, _⟩ := h
  rfl
 ·obtain ⟨c, j, rfl, k⟩ := h
  refine ⟨_, pss_cons (ps_set (i := 2) scMix.nd rfl (Or.inl rfl) (pe_op op_mod (pe_op op_mul (pe_op op_add (pe_op op_add (pe_op op_mod (pv 0) pe_int) (pe_op op_mul pe_int (pv 1))) pe_int) pe_int) pe_int))
   (pss_one (ps_ret (pe_op op_mod (pe_op op_mul (pv 2) (pe_op op_add (pe_op op_fdiv (pv 2) pe_int) pe_int)) pe_int))), ?_⟩
  have hb := mixN_b c j
  refine ⟨_, rfl, _, _, rfl, rfl, (by show (0 : Int) < 2147483647; decide), _, rfl, _, _, rfl, rfl, .inl ⟨by decide, by decide⟩, _, _, rfl, rfl, _, _, rfl, rfl, _, _, rfl, rfl, .inr ⟨by decide, by decide⟩, _, _, rfl, rfl, (by show (0 : Int) < 2147483647; decide), ?_⟩
  refine ⟨_, rfl, _, rfl, _, _, rfl, rfl, ⟨by decide, by decide⟩, _, _, rfl, rfl, _, _, rfl, rfl, .inl ⟨?_, ?_⟩, _, _, rfl, rfl, (by show (0 : Int) < 2147483647; decide), k⟩
  ·show -(2 ^ 64) < mixN c j
   omega
  ·show mixN c j < 2 ^ 64
   omega
end
def notStar : Expr → Bool
 | .Starred _ _ => false
 | _ => true
theorem se_any {e : Expr} {es : List Expr} {env : Env} (h : notStar e = true) : starEach (e :: es) env = (false, eval e env) :: starEach es env := by
 rw [starEach]
 intro e' p z
 subst z
 cases h
theorem mod_nat (d : Int) {b : Nat} (hb : 0 < b) : ∃ k : Nat, k < b ∧ d % (b : Int) = (k : Int) := by
 have h1 : 0 ≤ d % (b : Int) := Int.emod_nonneg _ (by omega)
 have h2 : d % (b : Int) < b := Int.emod_lt_of_pos _ (by omega)
 exact ⟨(d % (b : Int)).toNat, by omega, by omega⟩
theorem at_mem {xs : List V} {d : Int} {n : Nat} (h : xs.length = n) (hn : 0 < n) : ∃ v, atI xs (d % (n : Int)) = some v ∧ v ∈ xs := by
 have b1 : 0 ≤ d % (n : Int) := Int.emod_nonneg _ (by omega)
 have b2 : d % (n : Int) < n := Int.emod_lt_of_pos _ (by omega)
 have e : d % (n : Int) = ((d % (n : Int)).toNat : Int) := by omega
 have hlt : (d % (n : Int)).toNat < xs.length := by omega
 refine ⟨xs[(d % (n : Int)).toNat], ?_, List.getElem_mem hlt⟩
 have q := atI_nat (List.getElem?_eq_getElem hlt)
 rw [← e] at q
 exact q
def tN (pre : L2.St → Prop) (B : Nat) : TE := fun σ H Q => pre σ ∧ ∀ n : Nat, n < B → Q (.int n) H
def tTx (pre : L2.St → Prop) (R : Str → Prop) : TE := fun σ H Q => pre σ ∧ ∀ x, R x → Q (.str x) H
def tTA (pre : L2.St → Prop) (R : Str → Prop) (n : Nat) : TA := fun σ H Q => pre σ ∧ ∀ L : List Str, L.length = n → (∀ x ∈ L, R x) → Q (L.map V.str) H
def tTL (pre : L2.St → Prop) (R : Str → Prop) (n : Nat) : TE := fun σ H Q => pre σ ∧ ∀ l (L : List Str), L.length = n → (∀ x ∈ L, R x) → H l = none → Q (.ref l) (upd H l (.lst (L.map V.str)))
section
variable {X : Cx} {pre : L2.St → Prop} {R R1 R2 : Str → Prop} {e e1 e2 : Expr} {es : List Expr} {n m B : Nat} {p q : Pos}
theorem n_var {i B : Nat} (h : PE X e (tVar i)) (hi : ∀ σ, pre σ → ∃ k : Nat, k < B ∧ σ[i]? = some (some (.int k))) : PE X e (tN pre B) := h.imp fun σ H Q q => by
 obtain ⟨k, hb, hk⟩ := hi σ q.1
 exact ⟨_, hk, q.2 k hb⟩
theorem s_con {x : Str} (h : R x) : PE X (.Constant (.str x) m p) (tTx pre R) := pe_str.imp fun σ H Q q => q.2 _ h
theorem s_str (hg : Gl X "str") (hm : X.mg "str" = none) (h : PE X e (tN pre B)) (hB : B ≤ 10 ^ 60) (hR : ∀ n, n < B → R (numS n)) (hn : starEach [e] X.env = (false, eval e X.env) :: starEach [] X.env := by rfl) : PE X (.Call (.Name "str" p) [e] [] q) (tTx pre R) :=
 (pe_callTy call_str_num hg hm boot_str (pa_cons h pa_nil hn) (he := hn)).imp fun σ H Q z => ⟨z.1, fun n hn => ⟨n, rfl, Nat.lt_of_lt_of_le hn hB, z.2 _ (hR n hn)⟩⟩
theorem s_cat (h1 : PE X e1 (tTx pre R1)) (h2 : PE X e2 (tTx pre R2)) (hz : ∀ x y, R1 x → R2 y → x.length + y.length ≤ 1000) (hR : ∀ x y, R1 x → R2 y → R (x ++ y)) : PE X (.BinOp e1 .Add e2 p) (tTx pre R) :=
 (pe_op op_add_str h1 h2).imp fun σ H Q z => ⟨z.1, fun x hx => ⟨z.1, fun y hy => ⟨x, y, rfl, rfl, Nat.le_of_lt (small1000 (hz x y hx hy)), z.2 _ (hR x y hx hy)⟩⟩⟩
theorem sa_nil : PA X [] (tTA pre R 0) := pa_nil.imp fun _ H _ h => h.2 [] rfl (fun _ z => by cases z)
theorem sa_cons (he : PE X e (tTx pre R)) (hn : notStar e = true) (hr : PA X es (tTA pre R n)) : PA X (e :: es) (tTA pre R (n + 1)) := (pa_cons he hr (se_any hn)).imp fun σ H Q h =>
 ⟨h.1, fun v hv => ⟨h.1, fun L hl hL => h.2 (v :: L) (by rw [List.length_cons, hl]) fun x hx => by rcases List.mem_cons.mp hx with e | e; (rw [e]; exact hv); exact hL x e⟩⟩
theorem sl (h : PA X es (tTA pre R n)) (hn : n ≤ 1000 := by decide) : PE X (.List es p) (tTL pre R n) := (pe_lst h).imp fun σ H Q q =>
 ⟨q.1, fun L hl hL => ⟨Nat.le_of_lt (small1000 (by rw [List.length_map]; omega)), fun r hr => q.2 r L hl hL hr⟩⟩
end
def StepR (sz : Nat) (x : Str) : Prop := ∃ t, x = rowS t ∧ GoodT sz t
def NumR (B : Nat) (x : Str) : Prop := ∃ n, n < B ∧ x = numS n
theorem NumR.len {B : Nat} {x : Str} (h : NumR B x) (hB : B ≤ 10 ^ 60) : x.length ≤ 60 := by
 obtain ⟨n, hn, rfl⟩ := h
 rw [numS_len]
 exact figs_len (Nat.lt_of_lt_of_le hn hB) (by decide)
theorem app_assoc (x y z : Str) : x ++ y ++ z = x ++ (y ++ z) := str_ext (by
 show ((x.cps ++ y.cps) ++ z.cps).toList = (x.cps ++ (y.cps ++ z.cps)).toList
 simp)
theorem app_len (x y : Str) : (x ++ y).length = x.length + y.length := by
 show (x.cps ++ y.cps).size = _
 rw [Array.size_append]
 rfl
theorem row2 (w : Str) (a b : Nat) : w ++ one 32 ++ numS a ++ one 32 ++ numS b = rowS (w, [a, b]) := by
 have h := fold_join w [numS a, numS b]
 exact h
def preT (sz : Nat) : L2.St → Prop := fun σ => ∃ (d c : Int) (b n : Nat) (x : Option V), b < 4 ∧ n < 12 ∧ σ = [some (.int d), some (.int c), some (.int (sz : Nat)), some (.int b), some (.int n), x]
theorem preT3 {sz : Nat} : ∀ σ, preT sz σ → ∃ k : Nat, k < 4 ∧ σ[3]? = some (some (.int k)) := by rintro σ ⟨d, c, b, n, x, h1, h2, rfl⟩; exact ⟨b, h1, rfl⟩
theorem preT4 {sz : Nat} : ∀ σ, preT sz σ → ∃ k : Nat, k < 12 ∧ σ[4]? = some (some (.int k)) := by rintro σ ⟨d, c, b, n, x, h1, h2, rfl⟩; exact ⟨n, h2, rfl⟩
theorem tenB {B : Nat} (h : B ≤ 121) : B ≤ 10 ^ 60 := Nat.le_of_lt (small_top h)
theorem s_two {X : Cx} {sz B1 B2 m1 m2 : Nat} {pre : L2.St → Prop} {w w' : Str} {e1 e2 : Expr} {p1 p2 p3 p4 p5 p6 p7 p8 p9 : Pos} (hw : w' = w ++ one 32) (hl : w.length ≤ 5) (hg : Gl X "str") (hm : X.mg "str" = none) (h1 : PE X e1 (tN pre B1)) (h2 : PE X e2 (tN pre B2)) (n1 : starEach [e1] X.env = (false, eval e1 X.env) :: starEach [] X.env) (n2 : starEach [e2] X.env = (false, eval e2 X.env) :: starEach [] X.env)
  (b1 : B1 ≤ 10 ^ 60) (b2 : B2 ≤ 10 ^ 60) (hgd : ∀ a b, a < B1 → b < B2 → GoodT sz (w, [a, b])) :
  PE X (.BinOp (.BinOp (.BinOp (.Constant (.str w') m1 p1) .Add (.Call (.Name "str" p2) [e1] [] p3) p4) .Add (.Constant (.str " ") m2 p5) p6) .Add (.Call (.Name "str" p7) [e2] [] p8) p9) (tTx pre (StepR sz)) := by
 refine s_cat (R1 := fun x => ∃ a, a < B1 ∧ x = w' ++ numS a ++ one 32) (R2 := NumR B2) (s_cat (R1 := fun x => ∃ a, a < B1 ∧ x = w' ++ numS a) (R2 := fun x => x = one 32) (s_cat (R1 := fun x => x = w') (R2 := NumR B1) (s_con rfl) (s_str hg hm h1 b1 (fun n hn => ⟨n, hn, rfl⟩) n1) ?_ ?_) (s_con bl32) ?_ ?_) (s_str hg hm h2 b2 (fun n hn => ⟨n, hn, rfl⟩) n2) ?_ ?_
 ·rintro x y rfl h
  have := h.len b1
  rw [hw, app_len]
  show w.length + 1 + y.length ≤ 1000
  omega
 ·rintro x y rfl ⟨a, ha, rfl⟩
  exact ⟨a, ha, rfl⟩
 ·rintro x y ⟨a, ha, rfl⟩ rfl
  have := NumR.len ⟨a, ha, rfl⟩ b1
  rw [hw, app_len, app_len]
  show w.length + 1 + (numS a).length + 1 ≤ 1000
  omega
 ·rintro x y ⟨a, ha, rfl⟩ rfl
  exact ⟨a, ha, rfl⟩
 ·rintro x y ⟨a, ha, rfl⟩ h
  have h1 := NumR.len ⟨a, ha, rfl⟩ b1
  have h2 := h.len b2
  rw [hw, app_len, app_len, app_len]
  show w.length + 1 + (numS a).length + 1 + y.length ≤ 1000
  omega
 ·rintro x y ⟨a, ha, rfl⟩ ⟨b, hb, rfl⟩
  exact ⟨(w, [a, b]), by rw [hw]; exact row2 w a b, hgd a b ha hb⟩
section
variable {P : Program} {w : World} {K : W.Frag} {mg : Str → Option Value} {base : Heap}
def spLS : Sp := fun vs H Q _ => ∃ (d c : Int) (sz : Nat), vs = [.int d, .int c, .int (sz : Nat)] ∧ sz ≤ 120 ∧ ∀ x H', Same H H' → StepR sz x → Q (.str x) H'
theorem scLS : FnScope ["_law_draw", "_law_cell", "_law_size", "_law_box", "_law_name", "_law_some"] ["_law_draw", "_law_cell", "_law_size"] (defScope sLStep) := ⟨rfl, rfl, rfl, by decide +kernel, rfl, by decide +kernel, by decide +kernel⟩
theorem add_two {X : Cx} {sz m1 m2 : Nat} {pre : L2.St → Prop} {e1 : Expr} {p1 p2 p3 p4 p5 p6 : Pos} (hg : Gl X "str") (hm : X.mg "str" = none) (h1 : PE X e1 (tN pre 4)) (n1 : starEach [e1] X.env = (false, eval e1 X.env) :: starEach [] X.env) :
  PE X (.BinOp (.BinOp (.Constant (.str "add ") m1 p1) .Add (.Call (.Name "str" p2) [e1] [] p3) p4) .Add (.Constant (.str " 2") m2 p5) p6) (tTx pre (StepR sz)) := by
 have ew : Str.ofString "add " = Str.ofString "add" ++ one 32 := by decide +kernel
 have e2 : Str.ofString " 2" = one 32 ++ numS 2 := by decide +kernel
 refine s_cat (R1 := fun x => ∃ a, a < 4 ∧ x = Str.ofString "add" ++ one 32 ++ numS a) (R2 := fun x => x = one 32 ++ numS 2) (s_cat (R1 := fun x => x = Str.ofString "add" ++ one 32) (R2 := NumR 4) (s_con ew) (s_str hg hm h1 (tenB (by decide)) (fun n hn => ⟨n, hn, rfl⟩) n1) ?_ ?_) (s_con e2) ?_ ?_
 ·rintro x y rfl h
  have := h.len (tenB (by decide))
  rw [← ew]
  show 4 + y.length ≤ 1000
  omega
 ·rintro x y rfl ⟨a, ha, rfl⟩
  exact ⟨a, ha, rfl⟩
 ·rintro x y ⟨a, ha, rfl⟩ rfl
  have := NumR.len ⟨a, ha, rfl⟩ (tenB (B := 4) (by decide))
  rw [← ew, ← e2, app_len]
  show 4 + (numS a).length + 2 ≤ 1000
  omega
 ·rintro x y ⟨a, ha, rfl⟩ rfl
  refine ⟨(Str.ofString "add", [a, 2]), ?_, .add _ _ ha (by decide)⟩
  rw [← row2, app_assoc (Str.ofString "add" ++ one 32 ++ numS a)]
theorem skip_one {X : Cx} {sz m1 : Nat} {pre : L2.St → Prop} {e1 : Expr} {p1 p2 p3 p4 : Pos} (hsz : sz ≤ 120) (hg : Gl X "str") (hm : X.mg "str" = none) (h1 : PE X e1 (tN pre (sz + 1))) (n1 : starEach [e1] X.env = (false, eval e1 X.env) :: starEach [] X.env) :
  PE X (.BinOp (.Constant (.str "skip 1 ") m1 p1) .Add (.Call (.Name "str" p2) [e1] [] p3) p4) (tTx pre (StepR sz)) := by
 have ew : Str.ofString "skip 1 " = Str.ofString "skip" ++ one 32 ++ numS 1 ++ one 32 := by decide +kernel
 refine s_cat (R1 := fun x => x = Str.ofString "skip 1 ") (R2 := NumR (sz + 1)) (s_con rfl) (s_str hg hm h1 (tenB (by omega)) (fun n hn => ⟨n, hn, rfl⟩) n1) ?_ ?_
 ·rintro x y rfl h
  have := h.len (tenB (by omega))
  show 7 + y.length ≤ 1000
  omega
 ·rintro x y rfl ⟨a, ha, rfl⟩
  exact ⟨(Str.ofString "skip", [1, a]), by rw [ew, row2], .skip _ _ (by decide) (by omega) (by omega)⟩
theorem clear_row {sz : Nat} : StepR sz (Str.ofString "clear") := ⟨(Str.ofString "clear", []), by decide +kernel, .clear⟩
theorem ok_LS {f : Addr} {fd : FuncData} (F : Fun K "_law_step" "_law_step" sLStep f fd) (B : Bl mg) : FnOk P w K mg base CX0 1 f fd ["_law_draw", "_law_cell", "_law_size"] spLS := by
 refine F.ok scLS (fun vs H Q E h => ?_) (fun cdv A outer s H vs Q E hr h => ?_)
 ·obtain ⟨d, c, sz, rfl, _⟩ := h
  rfl
 ·obtain ⟨d, c, sz, rfl, hsz, k⟩ := h
  refine ⟨_, pss_cons (ps_set (i := 3) scLS.nd rfl (Or.inl rfl) (pe_op op_mod (pe_op op_fdiv (pv 0) pe_int) pe_int))
   (pss_cons (ps_set (i := 4) scLS.nd rfl (Or.inl rfl) (pe_op op_mod (pe_op op_fdiv (pv 0) pe_int) pe_int))
   (pss_cons (ps_set (i := 5) scLS.nd rfl (Or.inl rfl) (sl (pre := preT sz) (R := StepR sz) (n := 3) (sa_cons (s_two (e2 := .BinOp _ _ _ _) (B2 := 10 ^ 60) (by decide +kernel) (by decide) rfl B.str (n_var (pv 3) preT3) ((pe_op op_mod (pv 1) (pe_op op_pow pe_int pe_int)).imp fun σ H Q q => by
      obtain ⟨⟨d, c, b, n, x, h1, h2, rfl⟩, q⟩ := q
      obtain ⟨j, hj, ej⟩ := mod_nat c (show 0 < 10 ^ 60 by decide +kernel)
      have q := q j hj
      rw [← ej] at q
      exact ⟨_, rfl, _, _, rfl, rfl, ⟨by decide, by decide, by decide⟩, _, _, rfl, rfl, (by show (0 : Int) < 10 ^ (60 : Int).toNat; decide +kernel), q⟩) rfl rfl (tenB (by decide)) (Nat.le_refl _) (fun a b h1 h2 => .put a b h1 h2)) rfl
    (sa_cons (add_two rfl B.str (n_var (pv 3) preT3) rfl) rfl
    (sa_cons (s_con clear_row) rfl sa_nil)))))
   (pss_cons (ps_set (i := 5) scLS.nd rfl (Or.inl rfl) (pe_op op_cat (pv 5) (sl (pre := preT sz) (R := StepR sz) (n := 2) (sa_cons (s_two (by decide +kernel) (by decide) rfl B.str (n_var (pv 4) preT4) (n_var (pv 3) preT3) rfl rfl (tenB (by decide)) (tenB (by decide)) (fun a b h1 h2 => .set a b h1 h2)) rfl
    (sa_cons (s_two (by decide +kernel) (by decide) rfl B.str (n_var (pv 3) preT3) (n_var (pv 4) preT4) rfl rfl (tenB (by decide)) (tenB (by decide)) (fun a b h1 h2 => .look a b h1 h2)) rfl sa_nil)))))
   (pss_cons (ps_set (i := 5) scLS.nd rfl (Or.inl rfl) (pe_op op_cat (pv 5) (sl (pre := preT sz) (R := StepR sz) (n := 2) (sa_cons (s_two (by decide +kernel) (by decide) rfl B.str (n_var (pv 3) preT3) (n_var (pv 4) preT4) rfl rfl (tenB (by decide)) (tenB (by decide)) (fun a b h1 h2 => .swap a b h1 h2)) rfl
    (sa_cons (skip_one (e1 := .BinOp (.BinOp _ _ _ _) _ _ _) hsz rfl B.str ((pe_op op_mod (pe_op op_fdiv (pv 0) pe_int) (pe_op op_add (pv 2) pe_int)).imp fun σ H Q q => by
      obtain ⟨⟨d, c, b, n, x, h1, h2, rfl⟩, q⟩ := q
      obtain ⟨j, hj, ej⟩ := mod_nat (d / 28) (show 0 < sz + 1 by omega)
      have q := q j hj
      rw [← ej] at q
      exact ⟨_, rfl, _, _, rfl, rfl, ⟨by decide, by decide⟩, _, rfl, _, _, rfl, rfl, _, _, rfl, rfl, (by show (0 : Int) < (sz : Int) + 1; omega), q⟩) rfl) rfl sa_nil)))))
   (pss_one (ps_ret (pe_ix ix_list (pv 5) (pe_op op_mod (pv 0) pe_int) (fun _ _ => rfl)))))))), ?_⟩
  obtain ⟨b, hb, eb⟩ := mod_nat (d / 7) (show 0 < 4 by decide)
  obtain ⟨n, hn, en⟩ := mod_nat (d / 28) (show 0 < 12 by decide)
  refine ⟨_, rfl, _, _, rfl, rfl, ⟨by decide, by decide⟩, _, _, rfl, rfl, (by show (0 : Int) < 4; decide), ?_⟩
  refine ⟨_, rfl, _, _, rfl, rfl, ⟨by decide, by decide⟩, _, _, rfl, rfl, (by show (0 : Int) < 12; decide), ?_⟩
  have hpre : ∀ x : Option V, preT sz [some (.int d), some (.int c), some (.int (sz : Nat)), some (.int (d / 7 % 4)), some (.int (d / 28 % 12)), x] := fun x =>
   ⟨d, c, b, n, x, hb, hn, by rw [show d / 7 % 4 = (b : Int) from eb, show d / 28 % 12 = (n : Int) from en]⟩
  refine ⟨hpre _, fun l1 L1 n1 r1 m1 => ?_⟩
  have s1 := same_new (o := .lst (L1.map V.str)) (Same.refl H) m1
  refine ⟨_, rfl, hpre _, fun l2 L2 n2 r2 m2 => ?_⟩
  have s2 := same_new (o := .lst (L2.map V.str)) s1 m2
  refine ⟨l1, l2, _, _, rfl, rfl, same_new (Same.refl _) m2 _ _ upd_same, upd_same, by rw [List.length_map, List.length_map, n1, n2]; decide, fun l3 m3 => ?_⟩
  have s3 := same_new (o := .lst (L1.map V.str ++ L2.map V.str)) s2 m3
  refine ⟨_, rfl, hpre _, fun l4 L4 n4 r4 m4 => ?_⟩
  have s4 := same_new (o := .lst (L4.map V.str)) s3 m4
  refine ⟨l3, l4, _, _, rfl, rfl, same_new (Same.refl _) m4 _ _ upd_same, upd_same, by rw [List.length_append, List.length_map, List.length_map, List.length_map, n1, n2, n4]; decide, fun l5 m5 => ?_⟩
  have s5 := same_new (o := .lst ((L1.map V.str ++ L2.map V.str) ++ L4.map V.str)) s4 m5
  obtain ⟨v, hv, hmem⟩ := at_mem (xs := (L1.map V.str ++ L2.map V.str) ++ L4.map V.str) (d := d) (n := 7) (by rw [List.length_append, List.length_append, List.length_map, List.length_map, List.length_map, n1, n2, n4]) (by decide)
  refine ⟨_, rfl, _, rfl, _, _, rfl, rfl, (by show (0 : Int) < 7; decide), l5, _, _, v, rfl, rfl, SqL.of upd_same, hv, ?_⟩
  rw [← List.map_append, ← List.map_append] at hmem
  obtain ⟨x, hx, rfl⟩ := List.mem_map.mp hmem
  refine k x _ s5 ?_
  rcases List.mem_append.mp hx with h | h
  ·rcases List.mem_append.mp h with h | h
   ·exact r1 x h
   ·exact r2 x h
  ·exact r4 x h
end
end TL
namespace TL
open PySem PySem.Spec PyProof.Rows PySem.SeqAt L2 L3 L4
theorem gname_eq {k : Nat} {x y : V} {σ : L2.St} {H : Hp} {Q : L2.St → Hp → Prop} (e : x = y) (h : gName k y σ H Q) : gName k x σ H Q := by rw [e]; exact h
section
variable {P : Program} {w : World} {K : PySem.W.Frag} {mg : Str → Option Value} {base : Heap}
def spLines (K : PySem.W.Frag) : Sp := fun vs H Q _ => ∃ (a : Addr) (ns : List Int), vs = [.ref a] ∧ SqL K H a (ns.map V.int) ∧ ∀ l ps H', Same H H' → H' l = some (.lst ((rows ps).map V.str)) → GoodP ps → (rows ps).length ≤ 27 → Q (.ref l) H'
theorem scLines : FnScope ["_law_script", "_law_lines_here", "_law_clerk", "_law_cell", "_law_size"] ["_law_script"] (defScope sLines) := ⟨rfl, rfl, rfl, by decide +kernel, rfl, by decide +kernel, by decide +kernel⟩
theorem nd_csk : (["_law_cell", "_law_size", "_law_k"] : List Str).Nodup := by decide +kernel
theorem ok_Lines {f fC fM fL : Addr} {fd fdC fdM fdL : FuncData} (F : Fun K "_law_lines" "_law_lines" sLines f fd) (hrg : mg "range" = none)
  (GC : FnOk P w K mg base CX0 1 fC fdC ["_law_script", "_law_k"] (spCell K)) (kC : PySem.W.keepIn K (.ref fC) = true) (bC : Binds K fdC ["_law_script", "_law_k"] []) (mC : mg "_law_cell_at" = some (.ref fC))
  (GM : FnOk P w K mg base CX0 1 fM fdM ["_law_cell", "_law_k"] spMix) (kM : PySem.W.keepIn K (.ref fM) = true) (bM : Binds K fdM ["_law_cell", "_law_k"] []) (mM : mg "_law_mixed" = some (.ref fM))
  (GL : FnOk P w K mg base CX0 1 fL fdL ["_law_draw", "_law_cell", "_law_size"] spLS) (kL : PySem.W.keepIn K (.ref fL) = true) (bL : Binds K fdL ["_law_draw", "_law_cell", "_law_size"] []) (mL : mg "_law_step" = some (.ref fL)) :
  FnOk P w K mg base CX0 2 f fd ["_law_script"] (spLines K) := by
 refine F.ok scLines (fun vs H Q E h => ?_) (fun cdv A outer s H vs Q E hr h => ?_)
 ·obtain ⟨a, ns, rfl, _⟩ := h
  rfl
 ·obtain ⟨a, ns, rfl, hS, k⟩ := h
  refine ⟨_, pss_cons (ps_set (i := 1) scLines.nd rfl (Or.inl rfl) (pe_lst pa_nil))
   (pss_cons (ps_for PassesOwn.never rfl (pi_range1 rfl hrg (pa_cons (pe_op op_add pe_int (pe_op op_mod (pe_call GC hr rfl mC kC bC .nil pass0 (pa_cons (pv 0) (pa_cons pe_int pa_nil))) pe_int)) pa_nil)) (pg_name (i := 2) scLines.nd rfl (Or.inl rfl))
    (pss_cons (ps_set (i := 3) scLines.nd rfl (Or.inr rfl) (pe_call GC hr rfl mC kC bC .nil pass0 (pa_cons (pv 0) (pa_cons (pe_op op_add pe_int (pv 2)) pa_nil))))
    (pss_cons (ps_set (i := 4) scLines.nd rfl (Or.inr rfl) (pe_op op_mod (pv 3) pe_int))
    (pss_one (ps_set (i := 1) scLines.nd rfl (Or.inl rfl) (pe_op op_cat (pe_op op_cat (pv 1) (pe_lst (pa_cons pe_str pa_nil))) (pe_comp (N := ["_law_cell", "_law_size", "_law_k"]) (idx := [3, 4]) rfl (ScC.of (by kernel_rfl)) (gkeep_name (Nat.le_refl _)) (pi_range1 rfl hrg (pa_cons (pv 4) pa_nil))
      (fun _ _ _ _ => pg_name (i := 2) nd_csk rfl (Or.inl rfl) (.inr rfl)) (fun _ _ _ _ => pts_nil)
      (fun _ _ _ _ => pe_call GL hr rfl mL kL bL .nil pass0 (pa_cons (pe_call GM hr rfl mM kM bM .nil pass0 (pa_cons (pv 0) (pa_cons (pv 2) pa_nil))) (pa_cons (pv 0) (pa_cons (pv 1) pa_nil)))))))))))
   (pss_one (ps_ret (pv 1)))), ?_⟩
  refine ⟨by decide, fun lp nlp => ?_⟩
  have s1 : Same H (upd H lp (.lst [])) := same_new (Same.refl H) nlp
  have hc3 : 0 ≤ cellM ns 0 % 3 ∧ cellM ns 0 % 3 < 3 := ⟨Int.emod_nonneg _ (by decide), Int.emod_lt_of_pos _ (by decide)⟩
  refine ⟨_, rfl, a, ns, 0, rfl, s1.seq hS, by decide, _, _, rfl, rfl, (by show (0 : Int) < 3; decide), _, _, rfl, rfl, _, rfl, by omega, by omega, ?_⟩
  have e1 : (1 + cellM ns 0 % 3).toNat ≤ 3 ∧ 1 ≤ (1 + cellM ns 0 % 3).toNat := by omega
  generalize (1 + cellM ns 0 % 3).toNat = cn at e1
  refine for_range (n := cn) (fun i σ H' => ∃ ck cl sz l ps, σ = [some (.ref a), some (.ref l), ck, cl, sz] ∧ Same H H' ∧ H' l = some (.lst ((rows ps).map V.str)) ∧ ps.length = i ∧ (rows ps).length ≤ 9 * i ∧ ∀ p ∈ ps, p.length ≤ 120 ∧ ∀ t ∈ p, GoodT p.length t)
   ⟨none, none, none, lp, [], rfl, s1, upd_same, rfl, by decide, fun _ h => by cases h⟩ ?_ ?_
  ·rintro i σ H1 hi ⟨ck, cl, sz0, l, ps, rfl, t1, h1, hi2, hi3, hgd⟩
   refine ⟨_, rfl, _, rfl, _, _, rfl, rfl, a, ns, _, rfl, t1.seq hS, by omega, ?_⟩
   generalize cellM ns (1 + (0 + (i : Int))) = c
   obtain ⟨z, hz, ez0⟩ := mod_nat c (show 0 < 9 by decide)
   have ez1 : c % 9 = (z : Int) := ez0
   refine ⟨_, rfl, _, _, rfl, rfl, (by show (0 : Int) < 9; decide), gname_eq (y := .int (z : Int)) (by show V.int (c % 9) = _; rw [ez1]) ?_⟩
   refine ⟨_, rfl, by show 1 ≤ sizeLine; decide, fun l1 m1 => ?_⟩
   have s2 := same_new (o := .lst [.str "clerk"]) (Same.refl H1) m1
   refine ⟨l, l1, _, _, rfl, rfl, s2 _ _ h1, upd_same, Nat.le_of_lt (small1000 (by rw [List.length_map]; show _ + 1 ≤ 1000; omega)), fun l2 m2 => ?_⟩
   have s3 := same_new (o := .lst ((rows ps).map V.str ++ [.str "clerk"])) s2 m2
   have h2 : upd (upd H1 l1 (.lst [.str "clerk"])) l2 (.lst ((rows ps).map V.str ++ [.str "clerk"])) l2 = some (.lst ((rows ps).map V.str ++ [.str "clerk"])) := upd_same
   generalize upd (upd H1 l1 (.lst [.str "clerk"])) l2 (.lst ((rows ps).map V.str ++ [.str "clerk"])) = H2 at s3 h2 ⊢
   refine ⟨_, rfl, _, rfl, by omega, by omega, ?_⟩
   refine compW_of (n := z) (fun j ys H3 => j ≤ z ∧ Same H2 H3 ∧ ∃ p : Pt, p.length = j ∧ ys = (p.map rowS).map V.str ∧ ∀ t ∈ p, GoodT z t) ?_ ?_ ?_ ?_ ?_ ?_ ?_
   ·exact Nat.le_of_lt (small1000 (by omega))
   ·exact ⟨Nat.zero_le _, Same.refl _, [], rfl, rfl, fun _ h => by cases h⟩
   ·rintro j ys H3 ⟨_, _, p, e, r, _⟩
    rw [r, List.length_map, List.length_map, e]
    exact Nat.le_refl _
   ·rintro j ys H3 hj _
    exact hj
   ·rintro ys H3 _
    exact Nat.le_refl _
   ·rintro j ys H3 hj ⟨_, s4, p, e, r, gp⟩ x H4 ⟨eH, ex⟩
    subst eH
    subst ex
    refine ⟨_, rfl, _, rfl, _, _, rfl, _, rfl, _, rfl, _, _, z, rfl, by omega, fun x H5 s5 hx => ?_⟩
    obtain ⟨t, rfl, gt⟩ := hx
    refine ⟨hj, s4.trans s5, p ++ [t], by rw [List.length_append, e]; rfl, by rw [r, List.map_append, List.map_append]; rfl, fun y hy => ?_⟩
    rcases List.mem_append.mp hy with h | h
    ·exact gp y h
    ·rw [List.mem_singleton.mp h]; exact gt
   ·rintro ys H3 ⟨_, s4, p, e, r, gp⟩
    refine ⟨by rw [r, List.length_map, List.length_map, e]; exact Nat.le_of_lt (small1000 (by omega)), fun r1 hr1 => ?_⟩
    have s5 := same_new (o := .lst ys) s4 hr1
    refine ⟨l2, r1, _, _, rfl, rfl, s5 _ _ h2, upd_same, Nat.le_of_lt (small1000 (by rw [r, List.length_append, List.length_map, List.length_map, List.length_map, e]; show _ + 1 + z ≤ 1000; omega)), fun l4 m4 => ?_⟩
    have s6 := same_new (o := .lst (((rows ps).map V.str ++ [.str "clerk"]) ++ ys)) s5 m4
    have er : rows (ps ++ [p]) = rows ps ++ (Str.ofString "clerk" :: p.map rowS) := rows_snoc ps p
    refine ⟨_, _, _, l4, ps ++ [p], rfl, t1.trans (s3.trans s6), ?_, by rw [List.length_append, hi2]; rfl, ?_, fun p' hp' => ?_⟩
    ·rw [upd_same, r, er, List.map_append, List.map_cons, List.append_assoc]
     rfl
    ·rw [er, List.length_append, List.length_cons, List.length_map, e]
     omega
    ·rcases List.mem_append.mp hp' with h | h
     ·exact hgd p' h
     ·rw [List.mem_singleton.mp h]
      exact ⟨by omega, by rw [e]; exact gp⟩
  ·rintro σ H1 ⟨ck, cl, sz0, l, ps, rfl, t1, h1, hi2, hi3, hgd⟩
   exact ⟨_, rfl, k l ps H1 t1 h1 ⟨by omega, by omega, hgd⟩ (by omega)⟩
structure XT (K : PySem.W.Frag) (cE cP cC cS cL : Addr) : Prop where
 k1 : XK1 K chNT
 ce : PySem.W.kitCls K (.ref chNT) (.ref cE) = some true
 p : PySem.W.kitOne K (.ref chNT) (.ref cP) = some false
 c : PySem.W.kitOne K (.ref chNT) (.ref cC) = some false
 s : PySem.W.kitOne K (.ref chNT) (.ref cS) = some false
 l : PySem.W.kitOne K (.ref chNT) (.ref cL) = some false
 t : PySem.W.kitOne K (.ref chNT) (.ref chNT) = some true
 v : PySem.W.kitOne K (.ref chNT) (.type "ValueError") = some true
theorem boot_VE : bootBuiltins "ValueError" = some (.type "ValueError") := by decide +kernel
def spRefd : Sp := fun vs H Q _ => ∃ v, vs = [v] ∧ BadText H v ∧ ∀ H', Same H H' → Q (.bl true) H'
theorem scRefd : FnScope ["_law_thing", "_law_right", "e", "_law_others"] ["_law_thing"] (defScope sRefd) := ⟨rfl, rfl, rfl, by decide +kernel, rfl, by decide +kernel, by decide +kernel⟩
theorem ok_Refd {f fR cE cP cC cS cL : Addr} {fd fdR : FuncData} (F : Fun K "_law_refused" "_law_refused" sRefd f fd) (hI : mg "isinstance" = none) (hVE : mg "ValueError" = none)
  (GR : FnOk P w K mg base (CXE P w) 7 fR fdR ["text"] spReadX) (kR : PySem.W.keepIn K (.ref fR) = true) (bR : Binds K fdR ["text"] []) (mR : mg "read_program" = some (.ref fR))
  (mE : mg "TrayError" = some (.ref cE)) (bE : PySem.W.kitCls K (.ref cE) (.type "BaseException") = some true) (mP : mg "NoProgram" = some (.ref cP)) (mC : mg "NoClerks" = some (.ref cC)) (mS : mg "NoStep" = some (.ref cS)) (mT : mg "NoText" = some (.ref chNT)) (mL : mg "NoLine" = some (.ref cL))
  (xt : XT K cE cP cC cS cL) : FnOk P w K mg base CX0 8 f fd ["_law_thing"] spRefd := by
 refine F.ok scRefd (fun vs H Q E h => ?_) (fun cdv A outer s H vs Q E hr h => ?_)
 ·obtain ⟨v, rfl, _⟩ := h
  rfl
 ·obtain ⟨v, rfl, hB, k⟩ := h
  refine ⟨_, pss_cons (ps_set (i := 1) scRefd.nd rfl (Or.inl rfl) pe_bl)
   (pss_cons (ps_tryAs (i := 2) rfl rfl rfl scRefd.nd rfl rfl rfl mE bE
    (fun W pn E hL hp => pss_one (ps_expr (pe_callX GR hr hL rfl mR kR bR .nil (pa_cons (pv 0) pa_nil))))
    (fun ea pn => pss_cons (ps_set (i := 3) scRefd.nd rfl (Or.inl rfl) (pe_or (pe_callB (isiE_K K) rfl hI boot_isinstance (pa_cons (pv 2) (pa_cons (pe_glob (v := .ref cP) rfl mP rfl) pa_nil)))
      (pe_or (pe_callB (isiE_K K) rfl hI boot_isinstance (pa_cons (pv 2) (pa_cons (pe_glob (v := .ref cC) rfl mC rfl) pa_nil)))
      (pe_or (pe_callB (isiE_K K) rfl hI boot_isinstance (pa_cons (pv 2) (pa_cons (pe_glob (v := .ref cS) rfl mS rfl) pa_nil)))
      (pe_one (pe_callB (isiE_K K) rfl hI boot_isinstance (pa_cons (pv 2) (pa_cons (pe_glob (v := .ref cL) rfl mL rfl) pa_nil))))))))
     (pss_one (ps_set (i := 1) scRefd.nd rfl (Or.inl rfl) (pe_and (pe_callB (isiE_K K) rfl hI boot_isinstance (pa_cons (pv 2) (pa_cons (pe_glob (v := .ref chNT) rfl mT rfl) pa_nil)))
      (pe_and (pe_callB (isiE_K K) rfl hI boot_isinstance (pa_cons (pv 2) (pa_cons (pe_bltn (v := .ty "ValueError") rfl hVE boot_VE rfl) pa_nil))) (pe_one (pe_not (pv 3)))))))))
   (pss_one (ps_ret (pv 1)))), ?_⟩
  refine ⟨_, rfl, v, rfl, hB, fun H1 s1 => ⟨xt.ce, fun ea hea => ?_⟩⟩
  have he : upd H1 ea (exo ea (.ref chNT) none) ea = some (exo ea (.ref chNT) none) := upd_same
  have s2 : Same H1 (upd H1 ea (exo ea (.ref chNT) none)) := same_new (Same.refl _) hea
  generalize upd H1 ea (exo ea (.ref chNT) none) = H2 at he s2
  have nd : ∀ d, (none : Option Addr) = some d → ∃ fs, H2 d = some (xdo d fs) := fun d z => by cases z
  refine ⟨_, rfl, ea, chNT, none, .ref cP, _, _, rfl, he, nd, xt.k1, rfl, xt.p, _, rfl, iteF ?_⟩
  refine ⟨_, rfl, ea, chNT, none, .ref cC, _, _, rfl, he, nd, xt.k1, rfl, xt.c, _, rfl, iteF ?_⟩
  refine ⟨_, rfl, ea, chNT, none, .ref cS, _, _, rfl, he, nd, xt.k1, rfl, xt.s, _, rfl, iteF ?_⟩
  refine ⟨_, rfl, ea, chNT, none, .ref cL, _, _, rfl, he, nd, xt.k1, rfl, xt.l, ?_⟩
  refine ⟨_, rfl, ea, chNT, none, .ref chNT, _, _, rfl, he, nd, xt.k1, rfl, xt.t, _, rfl, iteT ?_⟩
  refine ⟨_, rfl, ea, chNT, none, .ty "ValueError", _, _, rfl, he, nd, xt.k1, rfl, xt.v, _, rfl, iteT ?_⟩
  refine ⟨_, rfl, _, rfl, ?_⟩
  exact ⟨_, rfl, k H2 (s1.trans s2)⟩
end
end TL
namespace TL
open PySem PySem.Spec PyProof.Rows PySem.SeqAt L2 L3 L4
theorem val_lt : ∀ (n : Nat) (l : List Nat), l.length = n → (∀ c ∈ l, 48 ≤ c ∧ c ≤ 57) → NumText.digitsVal l < 10 ^ n := by
 intro n
 induction n with
 | zero => intro l hl _; rw [List.length_eq_zero_iff.mp hl]; decide
 | succ n ih =>
  intro l hl hd
  obtain ⟨m, d, rfl⟩ := list_snoc (l := l) (by intro z; rw [z] at hl; cases hl)
  have h1 := ih m (by simp at hl; exact hl) fun c hc => hd c (List.mem_append_left _ hc)
  have h2 := hd d (by simp)
  rw [val_snoc, Nat.pow_succ]
  omega
theorem mt_isdigit {X : Cx} : MtR X "str.isdigit" (fun x vs H Q => ∃ z, x = .str z ∧ vs = [] ∧ Q (.bl (Txt.isdigit z)) H) := by
 intro pins s σ H x xs v us Q I rx rs q
 obtain ⟨z, rfl, rfl, q⟩ := q
 obtain ⟨t, rfl⟩ := rx
 cases rs
 exact PySem.W.KXw.isdigit rfl ⟨.bl _, H, I, rfl, q⟩
theorem mergeK_nil (kvs : List (Key × V)) : mergeK kvs [] = kvs := rfl
theorem mergeK_cons (kvs : List (Key × V)) (p : Key × V) (r : List (Key × V)) : mergeK kvs (p :: r) = mergeK (putK kvs p.1 p.2) r := rfl
def LimOk (n : Nat) (H : Hp) (D : List (Key × V)) : Prop := ∀ x : Str, (limM n x = none → valV D (Sum.inr x) = none) ∧ ∀ bs, limM n x = some bs → ∃ l, valV D (Sum.inr x) = some (.ref l) ∧ H l = some (.lst (bs.map V.int))
theorem lim_of {n : Nat} {H : Hp} {l1 l2 l3 l4 l5 l6 l7 : Addr} (h1 : H l1 = some (.lst [.int 4, .int TOPi])) (h2 : H l2 = some (.lst [.int 4, .int 4])) (h3 : H l3 = some (.lst [.int 12, .int 4])) (h4 : H l4 = some (.lst [.int 4, .int 12])) (h5 : H l5 = some (.lst [.int 4, .int 12]))
  (h6 : H l6 = some (.lst [])) (h7 : H l7 = some (.lst [.int 4, .int ((n : Int) + 1)])) :
  LimOk n H (mergeK (mergeK [] [(Sum.inr "put", V.ref l1), (Sum.inr "add", V.ref l2), (Sum.inr "set", V.ref l3), (Sum.inr "look", V.ref l4), (Sum.inr "swap", V.ref l5)]) (mergeK [] [(Sum.inr "clear", V.ref l6), (Sum.inr "skip", V.ref l7)])) := by
 have em : mergeK ([] : List (Key × V)) [(Sum.inr "clear", V.ref l6), (Sum.inr "skip", V.ref l7)] = ([(Sum.inr "clear", V.ref l6), (Sum.inr "skip", V.ref l7)] : List (Key × V)) := by
  rw [mergeK_cons, mergeK_cons, mergeK_nil, putK_new _ valV_nil, List.nil_append, putK_new _ (by rw [valV_neg (fun z => absurd (Sum.inr.inj z) (by decide +kernel))]; exact valV_nil)]
  rfl
 rw [em]
 have ev : ∀ x : Str, valV (mergeK (mergeK ([] : List (Key × V)) [(Sum.inr "put", V.ref l1), (Sum.inr "add", V.ref l2), (Sum.inr "set", V.ref l3), (Sum.inr "look", V.ref l4), (Sum.inr "swap", V.ref l5)]) [(Sum.inr "clear", V.ref l6), (Sum.inr "skip", V.ref l7)]) (Sum.inr x) =
   if x = "skip" then some (V.ref l7) else if x = "clear" then some (V.ref l6) else if x = "swap" then some (V.ref l5) else if x = "look" then some (V.ref l4) else if x = "set" then some (V.ref l3) else if x = "add" then some (V.ref l2) else if x = "put" then some (V.ref l1) else none := fun x => by
  rw [mergeK_cons, mergeK_cons, mergeK_cons, mergeK_cons, mergeK_cons, mergeK_nil, mergeK_cons, mergeK_cons, mergeK_nil]
  rw [valV_put, valV_put, valV_put, valV_put, valV_put, valV_put, valV_put, valV_nil]
  simp only [Sum.inr.injEq]
 intro x
 rw [ev]
 unfold limM
 by_cases e1 : x = "put"
 ·subst e1
  rw [if_pos rfl, if_neg (by decide +kernel), if_neg (by decide +kernel), if_neg (by decide +kernel), if_neg (by decide +kernel), if_neg (by decide +kernel), if_neg (by decide +kernel), if_pos rfl]
  exact ⟨fun z => (by cases z), fun bs z => (by cases z; exact ⟨_, rfl, h1⟩)⟩
 by_cases e2 : x = "add"
 ·subst e2
  rw [if_neg e1, if_pos rfl, if_neg (by decide +kernel), if_neg (by decide +kernel), if_neg (by decide +kernel), if_neg (by decide +kernel), if_neg (by decide +kernel), if_pos rfl]
  exact ⟨fun z => (by cases z), fun bs z => (by cases z; exact ⟨_, rfl, h2⟩)⟩
 by_cases e3 : x = "set"
 ·subst e3
  rw [if_neg e1, if_neg e2, if_pos rfl, if_neg (by decide +kernel), if_neg (by decide +kernel), if_neg (by decide +kernel), if_neg (by decide +kernel), if_pos rfl]
  exact ⟨fun z => (by cases z), fun bs z => (by cases z; exact ⟨_, rfl, h3⟩)⟩
 by_cases e4 : x = "look"
 ·subst e4
  rw [if_neg e1, if_neg e2, if_neg e3, if_pos rfl, if_neg (by decide +kernel), if_neg (by decide +kernel), if_neg (by decide +kernel), if_pos rfl]
  exact ⟨fun z => (by cases z), fun bs z => (by cases z; exact ⟨_, rfl, h4⟩)⟩
 by_cases e5 : x = "swap"
 ·subst e5
  rw [if_neg e1, if_neg e2, if_neg e3, if_neg e4, if_pos rfl, if_neg (by decide +kernel), if_neg (by decide +kernel), if_pos rfl]
  exact ⟨fun z => (by cases z), fun bs z => (by cases z; exact ⟨_, rfl, h5⟩)⟩
 by_cases e6 : x = "clear"
 ·subst e6
  rw [if_neg e1, if_neg e2, if_neg e3, if_neg e4, if_neg e5, if_pos rfl, if_neg (by decide +kernel), if_pos rfl]
  exact ⟨fun z => (by cases z), fun bs z => (by cases z; exact ⟨_, rfl, h6⟩)⟩
 by_cases e7 : x = "skip"
 ·subst e7
  rw [if_neg e1, if_neg e2, if_neg e3, if_neg e4, if_neg e5, if_neg e6, if_pos rfl, if_pos rfl]
  exact ⟨fun z => (by cases z), fun bs z => (by cases z; exact ⟨_, rfl, h7⟩)⟩
 rw [if_neg e1, if_neg e2, if_neg e3, if_neg e4, if_neg e5, if_neg e6, if_neg e7, if_neg e7, if_neg e6, if_neg e5, if_neg e4, if_neg e3, if_neg e2, if_neg e1]
 exact ⟨fun _ => rfl, fun bs z => (by cases z)⟩
theorem scLIs : FnScope ["_law_words", "_law_size", "_law_limits", "_law_k", "_law_word"] ["_law_words", "_law_size"] (defScope sLIs) := ⟨rfl, rfl, rfl, by decide +kernel, rfl, by decide +kernel, by decide +kernel⟩
abbrev inS (i : Nat) : Stmt := (defBody sLIs).getD i (.Pass ⟨0, 0, 0, 0⟩)
def dictIn : Stmt → Expr
 | .Assign _ e _ => e
 | .Expr (.Call _ (e :: _) _ _) _ => e
 | _ => .Constant .none 0 ⟨0, 0, 0, 0⟩
@[irreducible] def eD1 : Expr := dictIn (inS 0)
@[irreducible] def eD2 : Expr := dictIn (inS 1)
theorem bodyIn : ∃ p1 p2 q1 q2 q3 q4, defBody sLIs = [.Assign [.Name "_law_limits" p1] eD1 p2, .Expr (.Call (.Attribute (.Name "_law_limits" q1) "update" q2) [eD2] [] q3) q4, inS 2, inS 3, inS 4] ∧ (q2.endLine == q3.line) = true := by
 unfold eD1 eD2
 exact ⟨_, _, _, _, _, _, rfl, rfl⟩
theorem sw_D1 {x : Str} {p : Pos} {n : Nat} {env : Env} : swapsWith eD1 (some (.Name x p)) n env = pure false := by unfold eD1; rfl
section
variable {X : Cx}
abbrev tTwo (i j : Int) : TE := tLst (tCons (tC (.int i)) (tCons (tC (.int j)) tNil))
theorem pe_two {i j : Int} {m n : Nat} {p q r : Pos} : PE X (.List [.Constant (.int i) m p, .Constant (.int j) n q] r) (tTwo i j) := pe_lst (pa_cons pe_int (pa_cons pe_int pa_nil))
abbrev tPow : TE := tLst (tCons (tC (.int 4)) (tCons (tOp (rI CPow fun i j => .int (i ^ j.toNat)) (tC (.int 10)) (tC (.int 60))) tNil))
abbrev tSz : TE := tLst (tCons (tC (.int 4)) (tCons (tOp (rI0 fun i j => .int (i + j)) (tVar 1) (tC (.int 1))) tNil))
@[irreducible] def tD1 : TE := tDisp [(tC (.str "put"), tPow), (tC (.str "add"), tTwo 4 4), (tC (.str "set"), tTwo 12 4), (tC (.str "look"), tTwo 4 12), (tC (.str "swap"), tTwo 4 12)]
@[irreducible] def tD2 : TE := tDisp [(tC (.str "clear"), tLst tNil), (tC (.str "skip"), tSz)]
theorem pe_D1 : PE X eD1 tD1 := by
 unfold eD1 tD1
 refine @pe_disp X _ _ _ _ (@pps_cons X _ _ _ _ _ _ _ _ pe_str ?h1 (@pps_cons X _ _ _ _ _ _ _ _ pe_str ?h2 (@pps_cons X _ _ _ _ _ _ _ _ pe_str ?h3 (@pps_cons X _ _ _ _ _ _ _ _ pe_str ?h4 (@pps_cons X _ _ _ _ _ _ _ _ pe_str ?h5 pps_nil))))) rfl rfl (by intro z; cases z) (by decide)
 case h1 => exact pe_lst (pa_cons pe_int (pa_cons (pe_op op_pow pe_int pe_int) pa_nil))
 case h2 => exact pe_two
 case h3 => exact pe_two
 case h4 => exact pe_two
 case h5 => exact pe_two
theorem pe_D2 (v1 : ∀ p, PE X (.Name "_law_size" p) (tVar 1)) : PE X eD2 tD2 := by
 unfold eD2 tD2
 refine @pe_disp X _ _ _ _ (@pps_cons X _ _ _ _ _ _ _ _ pe_str ?h1 (@pps_cons X _ _ _ _ _ _ _ _ pe_str ?h2 pps_nil)) rfl rfl (by intro z; cases z) (by decide)
 case h1 => exact pe_lst pa_nil
 case h2 => exact pe_lst (pa_cons pe_int (pa_cons (pe_op op_add (v1 _) pe_int) pa_nil))
theorem m1_D2 {x : Str} {q1 q2 q3 : Pos} (h : (q2.endLine == q3.line) = true) : M1 X (.Name x q1) "update" q2 eD2 q3 := by
 unfold eD2
 exact ⟨rfl, rfl, h, rfl⟩
end
abbrev kv1 (l1 l2 l3 l4 l5 : Addr) : List (Key × V) := [(Sum.inr "put", V.ref l1), (Sum.inr "add", V.ref l2), (Sum.inr "set", V.ref l3), (Sum.inr "look", V.ref l4), (Sum.inr "swap", V.ref l5)]
abbrev kv2 (l6 l7 : Addr) : List (Key × V) := [(Sum.inr "clear", V.ref l6), (Sum.inr "skip", V.ref l7)]
theorem ten60 : (10 : Int) ^ (60 : Int).toNat = TOPi := by decide +kernel
theorem tD1_of {σ : L2.St} {H : Hp} {Q : VK} (h : ∀ p l1 l2 l3 l4 l5 H', Same H H' → H p = none → H' p = some (.dK (mergeK [] (kv1 l1 l2 l3 l4 l5))) → H' l1 = some (.lst [.int 4, .int TOPi]) → H' l2 = some (.lst [.int 4, .int 4]) → H' l3 = some (.lst [.int 12, .int 4]) → H' l4 = some (.lst [.int 4, .int 12]) → H' l5 = some (.lst [.int 4, .int 12]) → Q (.ref p) H') :
  tD1 σ H Q := by
 unfold tD1
 intro p hp
 have two : 2 ≤ sizeLine := by decide
 have s0 := same_new (o := .dK []) (Same.refl H) hp
 refine ⟨_, _, rfl, rfl, ⟨by decide, by decide, by decide⟩, two, fun l1 n1 => ?_⟩
 have s1 := same_new (o := .lst [.int 4, .int (10 ^ (60 : Int).toNat)]) (Same.refl _) n1
 refine ⟨two, fun l2 n2 => ?_⟩
 have s2 := same_new (o := .lst [.int 4, .int 4]) (Same.refl _) n2
 refine ⟨two, fun l3 n3 => ?_⟩
 have s3 := same_new (o := .lst [.int 12, .int 4]) (Same.refl _) n3
 refine ⟨two, fun l4 n4 => ?_⟩
 have s4 := same_new (o := .lst [.int 4, .int 12]) (Same.refl _) n4
 refine ⟨two, fun l5 n5 => ?_⟩
 have s5 := same_new (o := .lst [.int 4, .int 12]) (Same.refl _) n5
 have t4 := s4.trans s5
 have t3 := s3.trans t4
 have t2 := s2.trans t3
 have t1 := s1.trans t2
 have e0 := t1 _ _ (upd_same (H := H) (a := p) (o := .dK []))
 have e1 := t2 _ _ (upd_same (a := l1) (o := .lst [.int 4, .int (10 ^ (60 : Int).toNat)]))
 have e2 := t3 _ _ (upd_same (a := l2) (o := .lst [.int 4, .int 4]))
 have e3 := t4 _ _ (upd_same (a := l3) (o := .lst [.int 12, .int 4]))
 have e4 := s5 _ _ (upd_same (a := l4) (o := .lst [.int 4, .int 12]))
 refine ⟨e0, kv1 l1 l2 l3 l4 l5, rfl, by show 5 ≤ 15; decide, h p l1 l2 l3 l4 l5 _ (fun b o e => ?_) hp upd_same ?_ ?_ ?_ ?_ ?_⟩
 ·rw [upd_ne (ne_of_none e hp)]
  exact (s0.trans t1) _ _ e
 ·rw [upd_ne (ne_of e1 e0 (by intro z; cases z)), e1, ten60]
 ·rw [upd_ne (ne_of e2 e0 (by intro z; cases z))]; exact e2
 ·rw [upd_ne (ne_of e3 e0 (by intro z; cases z))]; exact e3
 ·rw [upd_ne (ne_of e4 e0 (by intro z; cases z))]; exact e4
 ·rw [upd_ne (ne_of (upd_same) e0 (by intro z; cases z))]; exact upd_same
theorem tD2_of {σ : L2.St} {H : Hp} {Q : VK} {n : Int} (hσ : σ[1]? = some (some (.int n))) (h : ∀ p l6 l7 H', Same H H' → H p = none → H' p = some (.dK (mergeK [] (kv2 l6 l7))) → H' l6 = some (.lst []) → H' l7 = some (.lst [.int 4, .int (n + 1)]) → Q (.ref p) H') : tD2 σ H Q := by
 unfold tD2
 intro p hp
 have s0 := same_new (o := .dK []) (Same.refl H) hp
 refine ⟨by decide, fun l6 n6 => ?_⟩
 have s6 := same_new (o := .lst []) (Same.refl _) n6
 refine ⟨_, hσ, _, _, rfl, rfl, by show 2 ≤ sizeLine; decide, fun l7 n7 => ?_⟩
 have s7 := same_new (o := .lst [.int 4, .int (n + 1)]) (Same.refl _) n7
 have e0 := (s6.trans s7) _ _ (upd_same (H := H) (a := p) (o := .dK []))
 have e6 := s7 _ _ (upd_same (a := l6) (o := .lst []))
 refine ⟨e0, kv2 l6 l7, rfl, by show 2 ≤ 15; decide, h p l6 l7 _ (fun b o e => ?_) hp upd_same ?_ ?_⟩
 ·rw [upd_ne (ne_of_none e hp)]
  exact (s0.trans (s6.trans s7)) _ _ e
 ·rw [upd_ne (ne_of e6 e0 (by intro z; cases z))]; exact e6
 ·rw [upd_ne (ne_of upd_same e0 (by intro z; cases z))]; exact upd_same
theorem lall_take_succ {ps : List Str} {bs : List Int} {i : Nat} {x : Str} {b : Int} (h1 : ps[i]? = some x) (h2 : bs[i]? = some b) : ((ps.zip bs).take (i + 1)).all (fun p => lword p.1 p.2) = (((ps.zip bs).take i).all (fun p => lword p.1 p.2) && lword x b) := by
 have zi : (ps.zip bs)[i]? = some (x, b) := by
  rw [List.getElem?_zip_eq_some]
  exact ⟨h1, h2⟩
 rw [List.take_add_one, zi, List.all_append]
 simp
theorem lall_hit {ps : List Str} {bs : List Int} {i : Nat} {x : Str} {b : Int} (h1 : ps[i]? = some x) (h2 : bs[i]? = some b) (h : lword x b = false) : (ps.zip bs).all (fun p => lword p.1 p.2) = false := by
 rw [List.all_eq_false]
 have zi : (ps.zip bs)[i]? = some (x, b) := by
  rw [List.getElem?_zip_eq_some]
  exact ⟨h1, h2⟩
 exact ⟨(x, b), List.mem_of_getElem? zi, by rw [h]; exact Bool.false_ne_true⟩
section
variable {P : Program} {w : World} {K : PySem.W.Frag} {mg : Str → Option Value} {base : Heap}
def spLIs : Sp := fun vs H Q _ => ∃ (a : Addr) (W : List Str) (n : Nat), vs = [.ref a, .int (n : Nat)] ∧ H a = some (.lst (W.map V.str)) ∧ W ≠ [] ∧ (∀ x ∈ W, Asc x ∧ x.length ≤ 900) ∧ W.length ≤ 990 ∧ ∀ H', Same H H' → Q (.bl (lstep n W)) H'
theorem ok_LIs {f : Addr} {fd : FuncData} (F : Fun K "_law_is_step" "_law_is_step" sLIs f fd) (B : Bl mg) (hrg : mg "range" = none) : FnOk P w K mg base CX0 2 f fd ["_law_words", "_law_size"] spLIs := by
 refine F.ok scLIs (fun vs H Q E h => ?_) (fun cdv A outer s H vs Q E hr h => ?_)
 ·obtain ⟨a, W, n, rfl, _⟩ := h
  rfl
 ·obtain ⟨a, W, n, rfl, ha, hne, hW, hl, k⟩ := h
  have hu := hr.units
  have hu1 := hu_of hr
  obtain ⟨p1, p2, q1, q2, q3, q4, eb, hq⟩ := bodyIn
  rw [eb]
  refine ⟨_, pss_cons (ps_set (i := 2) scLIs.nd rfl (Or.inl rfl) pe_D1 sw_D1)
   (pss_cons (ps_expr (pe_dupd (pv 2) (pe_D2 (fun _ => pv 1)) (m1_D2 hq)))
   (pss_cons (ps_if (PW.pt (pw_or (pt_cmp (pc_dnotin hu1 (pe_ix ix_list (pv 0) pe_int (fun _ _ => rfl)) (pv 2)))
    (pw_or1 (pt_cmpR op_ne (pe_callB call_len_seq rfl B.len PySem.boot_len (pa_cons (pv 0) pa_nil)) (pe_op op_add (pe_callB call_len_seq rfl B.len PySem.boot_len (pa_cons (pe_dget hu1 (pv 2) (pe_ix ix_list (pv 0) pe_int (fun _ _ => rfl)) (fun _ _ => rfl)) pa_nil)) pe_int) (nomark _)))))
    (pss_one (ps_ret pe_bl)) pss_nil)
   (pss_cons (ps_for PassesOwn.never rfl (pi_range2 rfl hrg (pa_cons pe_int (pa_cons (pe_callB call_len_seq rfl B.len PySem.boot_len (pa_cons (pv 0) pa_nil)) pa_nil))) (pg_name (i := 3) scLIs.nd rfl (Or.inl rfl))
    (pss_cons (ps_set (i := 4) scLIs.nd rfl (Or.inl rfl) (pe_ix ix_list (pv 0) (pv 3) (fun _ _ => rfl)))
    (pss_cons (ps_if (PW.pt (pw_or (pt_not (pt_val (pe_bm0 PySem.F.plainAttrs_str PySem.F.slot_str_isdigit PySem.F.type_str_isdigit mt_isdigit (pv 4))))
     (pw_or (pt_cmpR op_gt (pe_callB call_len_str rfl B.len PySem.boot_len (pa_cons (pv 4) pa_nil)) pe_int (nomark _))
     (pw_or1 (pt_cmpR op_ne (pe_callTy call_str_num rfl B.str boot_str (pa_cons (pe_callTy call_int_dig rfl B.int boot_int (pa_cons (pv 4) pa_nil)) pa_nil)) (pv 4) (nomark _))))))
     (pss_one (ps_ret pe_bl)) pss_nil)
    (pss_one (ps_if (pt_cmpR op_ge (pe_callTy call_int_dig rfl B.int boot_int (pa_cons (pv 4) pa_nil)) (pe_ix ix_list (pe_dget hu1 (pv 2) (pe_ix ix_list (pv 0) pe_int (fun _ _ => rfl)) (fun _ _ => rfl)) (pe_op op_sub (pv 3) pe_int) (fun _ _ => rfl)) (nomark _))
     (pss_one (ps_ret pe_bl)) pss_nil)))))
   (pss_one (ps_ret pe_bl))))), ?_⟩
  cases W with
  | nil => exact absurd rfl hne
  | cons x ps =>
  have kk : ∀ H', Same H H' → Q (.bl (lstep n (x :: ps))) H' := k
  refine tD1_of fun p l1 l2 l3 l4 l5 H1 s1 hp hD h1' h2' h3' h4' h5' => ?_
  refine ⟨_, rfl, p, rfl, .inl ⟨_, .inl hD⟩, tD2_of (n := (n : Int)) rfl fun pp l6 l7 H2 s2 hpp hD2 h6 h7 => ?_⟩
  have np : p ≠ pp := ne_of_none hD hpp
  have hD' := s2 _ _ hD
  have far : ∀ {l : Addr} {zs : List V}, H2 l = some (.lst zs) → ∀ o, upd H2 p o l = some (.lst zs) := fun e o => by rw [upd_ne (ne_of e hD' (by intro z; cases z))]; exact e
  refine ⟨pp, _, _, rfl, np, hD', hD2, ?_, ?_⟩
  ·have a1 := length_mergeK (kv1 l1 l2 l3 l4 l5) []
   have a2 := length_mergeK (kv2 l6 l7) []
   have a3 : (kv1 l1 l2 l3 l4 l5).length = 5 := rfl
   have a4 : (kv2 l6 l7).length = 2 := rfl
   have a5 : ([] : List (Key × V)).length = 0 := rfl
   rw [sizeLine_eq]
   omega
  have LO : LimOk n (upd H2 p (.dK (mergeK (mergeK [] (kv1 l1 l2 l3 l4 l5)) (mergeK [] (kv2 l6 l7))))) (mergeK (mergeK [] (kv1 l1 l2 l3 l4 l5)) (mergeK [] (kv2 l6 l7))) :=
   lim_of (far (s2 _ _ h1') _) (far (s2 _ _ h2') _) (far (s2 _ _ h3') _) (far (s2 _ _ h4') _) (far (s2 _ _ h5') _) (far h6 _) (far h7 _)
  have hD3 : upd H2 p (.dK (mergeK (mergeK [] (kv1 l1 l2 l3 l4 l5)) (mergeK [] (kv2 l6 l7)))) p = some (.dK (mergeK (mergeK [] (kv1 l1 l2 l3 l4 l5)) (mergeK [] (kv2 l6 l7)))) := upd_same
  have s3 : Same H (upd H2 p (.dK (mergeK (mergeK [] (kv1 l1 l2 l3 l4 l5)) (mergeK [] (kv2 l6 l7))))) := fun b o e => by
   rw [upd_ne (ne_of_none e hp)]
   exact (s1.trans s2) _ _ e
  generalize upd H2 p (.dK (mergeK (mergeK [] (kv1 l1 l2 l3 l4 l5)) (mergeK [] (kv2 l6 l7)))) = H3 at LO hD3 s3
  generalize mergeK (mergeK [] (kv1 l1 l2 l3 l4 l5)) (mergeK [] (kv2 l6 l7)) = D at LO hD3
  have ha3 := s3 _ _ ha
  have hg := DGet.k (k := Sum.inr x) hD3
  refine ⟨_, rfl, a, _, 0, .str x, rfl, rfl, SqL.of ha3, atI_nat (j := 0) rfl, _, rfl, p, _, rfl, hg, _, rfl, ?_⟩
  cases hb : limM n x with
  | none =>
   rw [(LO x).1 hb]
   have e : lstep n (x :: ps) = false := by show (match limM n x with | none => false | some ls => _) = false; rw [hb]
   have q := kk _ s3
   rw [e] at q
   exact iteT (iteT q)
  | some bs =>
  obtain ⟨l, hv1, hl1⟩ := (LO x).2 bs hb
  have eS : lstep n (x :: ps) = (decide (ps.length = bs.length) && (ps.zip bs).all fun p => lword p.1 p.2) := by show (match limM n x with | none => false | some ls => decide (ps.length = ls.length) && (ps.zip ls).all fun p => lword p.1 p.2) = _; rw [hb]
  rw [eS] at kk
  rw [hv1] at hg ⊢
  refine iteF ⟨_, rfl, a, _, rfl, .inl (SqL.of ha3), _, rfl, _, rfl, a, _, 0, .str x, rfl, rfl, SqL.of ha3, atI_nat (j := 0) rfl, p, _, rfl, hg, l, _, rfl, .inl (SqL.of hl1), _, _, rfl, rfl, rfl, _, rfl, iteND (fun ne => ?_) (fun eq => ?_)⟩
  ·have e : decide (ps.length = bs.length) = false := decide_eq_false fun z => ne (by rw [List.length_map, List.length_cons, List.length_map, z]; rfl)
   have q := kk _ s3
   rw [e, Bool.false_and] at q
   exact q
  have hlen : ps.length = bs.length := by
   injection eq with eq
   rw [List.length_map, List.length_cons, List.length_map] at eq
   omega
  rw [decide_eq_true hlen, Bool.true_and] at kk
  rw [List.length_cons] at hl
  have en : ((((x :: ps).map V.str).length : Int) - 1).toNat = ps.length := by rw [List.length_map, List.length_cons]; omega
  refine ⟨_, rfl, a, _, rfl, .inl (SqL.of ha3), 1, _, rfl, ⟨by decide, by decide, by rw [List.length_map, List.length_cons]; omega, by rw [List.length_map, List.length_cons]; omega⟩, for_range (fun i σ H' => i ≤ ps.length ∧ ∃ c d, σ = [some (.ref a), some (.int (n : Nat)), some (.ref p), c, d] ∧ H' = H3 ∧ ((ps.zip bs).take i).all (fun p => lword p.1 p.2) = true) ⟨Nat.zero_le _, none, none, rfl, rfl, rfl⟩ ?_ ?_⟩
  ·rintro i σ H' hi ⟨_, c, d, rfl, rfl, hal⟩
   rw [en] at hi
   have hpi : ps[i]? = some ps[i] := List.getElem?_eq_getElem hi
   have hbi : bs[i]? = some (bs[i]'(by omega)) := List.getElem?_eq_getElem (by omega)
   obtain ⟨hasc, hwl⟩ := hW ps[i] (List.mem_cons_of_mem _ (List.getElem_mem hi))
   have at1 : atI ((x :: ps).map V.str) (1 + (i : Int)) = some (.str ps[i]) := by
    have e : (1 : Int) + (i : Int) = ((i + 1 : Nat) : Int) := by omega
    rw [e]
    exact atI_nat (by rw [List.map_cons, List.getElem?_cons_succ, List.getElem?_map, hpi]; rfl)
   have bad : lword ps[i] (bs[i]'(by omega)) = false → Q (.bl false) H' := fun h => by
    have q := kk _ s3
    rw [lall_hit hpi hbi h] at q
    exact q
   have good : lword ps[i] (bs[i]'(by omega)) = true → ((ps.zip bs).take (i + 1)).all (fun p => lword p.1 p.2) = true := fun h => by rw [lall_take_succ hpi hbi, hal, h]; rfl
   refine ⟨_, rfl, _, rfl, a, _, 1 + (i : Int), .str ps[i], rfl, rfl, SqL.of ha3, at1, ?_⟩
   generalize ps[i] = y at hasc hwl at1 bad good
   have ew : lword y (bs[i]'(by omega)) = (Txt.isdigit y && (decide (y.length ≤ 60) && (decide (numS (valS y) = y) && decide ((valS y : Int) < (bs[i]'(by omega)))))) := rfl
   refine ⟨_, rfl, rfl, y, rfl, rfl, _, rfl, iteNB (fun hd => ?_) (fun hd => ?_)⟩
   ·exact bad (by rw [ew, hd]; rfl)
   have hz : y.length ≤ sizeLine := Nat.le_of_lt (small1000 (by omega))
   refine ⟨_, rfl, y, rfl, hz, _, _, rfl, rfl, _, rfl, iteD (fun h60 => ?_) (fun h60 => ?_)⟩
   ·exact bad (by rw [ew, decide_eq_false (show ¬ y.length ≤ 60 by omega), Bool.false_and, Bool.and_false])
   have h60' : y.length ≤ 60 := by omega
   have hd2 := hd
   rw [isdigit_of hasc, Bool.and_eq_true, decide_eq_true_eq] at hd2
   have hne2 : y.cps.toList ≠ [] := fun z => by
    have := len_toList y
    rw [z] at this
    simp at this
    omega
   have hv60 : valS y < 10 ^ 60 := by
    have h1 := val_lt _ y.cps.toList rfl fun c hc => dig_iff.mp (List.all_eq_true.mp hd2.2 c hc)
    rw [len_toList] at h1
    exact Nat.lt_of_lt_of_le h1 (Nat.pow_le_pow_right (by decide) h60')
   refine ⟨_, rfl, y, rfl, hd2.2, hne2, h60', valS y, rfl, hv60, _, rfl, rfl, _, rfl, iteND (fun hs => ?_) (fun hs => ?_)⟩
   ·exact bad (by rw [ew, decide_eq_false (show ¬ numS (valS y) = y from fun z => hs (by rw [z])), Bool.false_and, Bool.and_false, Bool.and_false])
   have hs' := str_inj hs
   refine ⟨_, rfl, y, rfl, hd2.2, hne2, h60', ?_⟩
   refine ⟨_, rfl, _, rfl, a, _, 0, .str x, rfl, rfl, SqL.of ha3, atI_nat (j := 0) rfl, p, _, rfl, hg, _, rfl, _, _, rfl, rfl, l, _, _, .int (bs[i]'(by omega)), rfl, rfl, SqL.of hl1, ?_, _, _, rfl, rfl, _, rfl, iteD (fun h2 => ?_) (fun h2 => ?_)⟩
   ·have e : (1 : Int) + (i : Int) - 1 = ((i : Nat) : Int) := by omega
    rw [e]
    exact atI_nat (by rw [List.getElem?_map, hbi]; rfl)
   ·exact bad (by rw [ew, decide_eq_false (show ¬ ((valS y : Int) < bs[i]'(by omega)) by omega), Bool.and_false, Bool.and_false, Bool.and_false])
   ·exact ⟨hi, _, _, rfl, rfl, good (by rw [ew, hd, decide_eq_true h60', decide_eq_true hs', decide_eq_true (show (valS y : Int) < bs[i]'(by omega) by omega)]; rfl)⟩
  ·rintro σ H' ⟨_, c, d, rfl, rfl, hal⟩
   rw [en, List.take_of_length_le (by rw [List.length_zip]; omega)] at hal
   have q := kk _ s3
   rw [hal] at q
   exact q
end
end TL
namespace TL
open PySem PySem.Spec PyProof.Rows PySem.SeqAt L2 L3 L4
theorem mixNilL (ds : List PyData) : noMix (.list ds) (.list []) = true ∧ same (.list ds) (.list []) = decide (ds = []) := by
 cases ds with
 | nil => simp [noMix, noMixAll, same, sameAll]
 | cons d r => simp [noMix, noMixAll, same, sameAll]
theorem eqL_nil {K : W.Frag} {H : Hp} {a b : Addr} {xs : List V} {ds : List PyData} {neg : Bool} {Q : VK} (ha : SqL K H a xs) (hd : DatVs K H xs ds) (hs : shaped (.list ds) = true) (hb : SqL K H b []) (q : Q (.bl (if neg = true then !decide (ds = []) else decide (ds = []))) H) : rEqD K neg (.ref a) (.ref b) H Q :=
 ⟨.list ds, .list [], .lst ha hd, .lst hb .nil, hs, by decide, (mixNilL _).1, by rw [(mixNilL _).2]; exact q⟩
def datW (r : Str) : PyData := .list ((Txt.split r (one 32)).map PyData.str)
theorem datW_ok {r : Str} (ha : Asc r) : (datW r).canLay0 = true ∧ (datW r).depth ≤ 3 := by
 unfold datW
 refine ⟨?_, ?_⟩
 ·simp only [PyData.canLay0]
  exact canLay_map fun x hx => by simp only [PyData.canLay0]; exact asc_strOk (split_asc ha hx)
 ·simp only [PyData.depth]
  have := depth_map (f := PyData.str) (k := 1) (l := Txt.split r (one 32)) fun a _ => by simp [PyData.depth]
  omega
def datQ (q : List Str) : PyData := .list (q.map datW)
theorem datQ_ok {q : List Str} (ha : ∀ r ∈ q, Asc r) : (datQ q).canLay0 = true ∧ (datQ q).depth ≤ 5 := by
 unfold datQ
 refine ⟨?_, ?_⟩
 ·simp only [PyData.canLay0]
  exact canLay_map fun r hr => (datW_ok (ha r hr)).1
 ·simp only [PyData.depth]
  have := depth_map (f := datW) (k := 3) (l := q) fun r hr => (datW_ok (ha r hr)).2
  omega
def IsWd (S : List Addr) (H : Hp) (v : V) (r : Str) : Prop := ∃ b, v = .ref b ∧ b ∉ S ∧ H b = some (.lst ((Txt.split r (one 32)).map V.str))
def IsOpW (S : List Addr) (H : Hp) (a : Addr) (q : List Str) : Prop := ∃ wvs, H a = some (.lst wvs) ∧ Paired (IsWd S H) wvs q
theorem IsWd.same {S : List Addr} {H H' : Hp} {v : V} {r : Str} (h : IsWd S H v r) (s : Same H H') : IsWd S H' v r := by
 obtain ⟨b, e, n, h⟩ := h
 exact ⟨b, e, n, s _ _ h⟩
theorem IsWd.upd {S : List Addr} {H : Hp} {v : V} {r : Str} {l : Addr} {o : HO} (h : IsWd S H v r) (hl : l ∈ S) : IsWd S (upd H l o) v r := by
 obtain ⟨b, e, n, h⟩ := h
 refine ⟨b, e, n, ?_⟩
 rw [upd_ne fun z => n (by rw [z]; exact hl)]
 exact h
theorem IsWd.more {S : List Addr} {H : Hp} {v : V} {r : Str} {p : Addr} (h : IsWd S H v r) (hp : H p = none) : IsWd (p :: S) H v r := by
 obtain ⟨b, e, n, h⟩ := h
 refine ⟨b, e, fun z => ?_, h⟩
 rcases List.mem_cons.mp z with y | y
 ·rw [y, hp] at h; cases h
 ·exact n y
theorem IsWd.dat {K : W.Frag} {S : List Addr} {H : Hp} {v : V} {r : Str} (h : IsWd S H v r) : DatV K H v (datW r) := by
 obtain ⟨b, rfl, _, h⟩ := h
 refine .lst (SqL.of h) ?_
 generalize Txt.split r (one 32) = ws
 induction ws with
 | nil => exact .nil
 | cons x ws ih => exact .cons (.str x) ih
theorem IsOpW.same {S : List Addr} {H H' : Hp} {a : Addr} {q : List Str} (h : IsOpW S H a q) (s : Same H H') : IsOpW S H' a q := by
 obtain ⟨wvs, e, r⟩ := h
 exact ⟨wvs, s _ _ e, Paired.mapP r fun _ _ z => z.same s⟩
theorem IsOpW.upd {S : List Addr} {H : Hp} {a l : Addr} {q : List Str} {o : HO} (h : IsOpW S H a q) (ne : a ≠ l) (hl : l ∈ S) : IsOpW S (upd H l o) a q := by
 obtain ⟨wvs, e, r⟩ := h
 refine ⟨wvs, ?_, Paired.mapP r fun _ _ z => z.upd hl⟩
 rw [upd_ne ne]
 exact e
theorem IsOpW.dat {K : W.Frag} {S : List Addr} {H : Hp} {a : Addr} {q : List Str} (h : IsOpW S H a q) : DatV K H (.ref a) (datQ q) := by
 obtain ⟨wvs, e, r⟩ := h
 exact .lst (SqL.of e) (datVs_map (fun v r h => IsWd.dat h) r)
theorem opws_dat {K : W.Frag} {S : List Addr} {H : Hp} : ∀ {as : List Addr} {D : List (List Str)}, Paired (IsOpW S H) as D → DatVs K H (as.map V.ref) (D.map datQ)
 | _, _, .nil => .nil
 | _, _, .cons h t => .cons h.dat (opws_dat t)
structure Rd3 (H H' : Hp) (l : Addr) (D : List (List Str)) : Prop where
 same : Same H H'
 hl : H l = none
 ex : ∃ as : List Addr, H' l = some (.lst (as.map V.ref)) ∧ Paired (IsOpW (l :: as) H') as D ∧ as.Nodup ∧ l ∉ as ∧ ∀ a ∈ as, H a = none
theorem nd_pw : (["_law_part", "_law_words"] : List Str).Nodup := by decide +kernel
section
variable {P : Program} {w : World} {K : W.Frag} {mg : Str → Option Value} {base : Heap}
def spGood : Sp := fun vs H Q _ => ∃ (a : Addr) (rs : List Str), vs = [.ref a] ∧ H a = some (.lst (rs.map V.str)) ∧ RowsOk rs ∧ ∀ H', Same H H' → Q (.bl (lgood rs)) H'
theorem scGood : FnScope ["_law_lines_here", "_law_parts", "_law_row", "_law_part"] ["_law_lines_here"] (defScope sGood) := ⟨rfl, rfl, rfl, by decide +kernel, rfl, by decide +kernel, by decide +kernel⟩
theorem ok_Good {f fI : Addr} {fd fdI : FuncData} (F : Fun K "_law_good" "_law_good" sGood f fd) (B : Bl mg) (GI : FnOk P w K mg base CX0 2 fI fdI ["_law_words", "_law_size"] spLIs) (kI : W.keepIn K (.ref fI) = true) (bI : Binds K fdI ["_law_words", "_law_size"] []) (mI : mg "_law_is_step" = some (.ref fI)) :
  FnOk P w K mg base CX0 3 f fd ["_law_lines_here"] spGood := by
 refine F.ok scGood (fun vs H Q E h => ?_) (fun cdv A outer s H vs Q E hr h => ?_)
 ·obtain ⟨a, rs, rfl, _⟩ := h
  rfl
 ·obtain ⟨a, rs, rfl, ha, hg, k⟩ := h
  have hu := hr.units
  refine ⟨_, pss_cons (ps_set (i := 1) scGood.nd rfl (Or.inl rfl) (pe_lst pa_nil))
   (pss_cons (ps_for PassesOwn.never rfl (pi_list (pv 0)) (pg_name (i := 2) scGood.nd rfl (Or.inl rfl))
    (pss_one (ps_if (pt_cmpR op_eq (pv 2) pe_str (nomark _))
     (pss_one (ps_expr (pe_bm PySem.F.plainAttrs_list PySem.F.slot_list_append PySem.F.type_list_append mt_append (pv 1) (pa_cons (pe_lst pa_nil) pa_nil))))
     (pss_one (ps_if (pt_cmpR (op_eqD hu) (pv 1) (pe_lst pa_nil) (nomark _)) (pss_one (ps_ret pe_bl))
      (pss_one (ps_expr (pe_bm PySem.F.plainAttrs_list PySem.F.slot_list_append PySem.F.type_list_append mt_append (pe_ix ix_list (pv 1) (pe_un un_neg pe_int) (fun _ _ => rfl)) (pa_cons (pe_bm PySem.F.plainAttrs_str PySem.F.slot_str_split PySem.F.type_str_split mt_split (pv 2) (pa_cons pe_str pa_nil)) pa_nil)))))))))
   (pss_cons (ps_if (pt_not (pt_chain op_le op_le pe_int (pe_callB call_len_seq rfl B.len PySem.boot_len (pa_cons (pv 1) pa_nil)) pe_int)) (pss_one (ps_ret pe_bl)) pss_nil)
   (pss_cons (ps_for PassesOwn.never rfl (pi_list (pv 1)) (pg_name (i := 3) scGood.nd rfl (Or.inr rfl))
    (pss_one (ps_if (pt_cmpR (op_neD hu) (pe_comp (N := ["_law_part", "_law_words"]) (idx := [3]) rfl (ScC.of (by kernel_rfl)) (gkeep_name (Nat.le_refl _)) (pi_list (pv 3))
     (fun _ _ _ _ => pg_name (i := 1) nd_pw rfl (Or.inl rfl) (.inr rfl))
     (fun _ _ _ _ => pts_one (pt_not (pt_val (pe_call GI hr rfl mI kI bI .nil pass0 (pa_cons (pv 1) (pa_cons (pe_callB (len_K K) rfl B.len PySem.boot_len (pa_cons (pv 0) pa_nil)) pa_nil)))))) (fun _ _ _ _ => pv 1)) (pe_lst pa_nil) (nomark _)) (pss_one (ps_ret pe_bl)) pss_nil)))
   (pss_one (ps_ret pe_bl))))), ?_⟩
  have hrl : (rs.map V.str).length = rs.length := List.length_map _
  have hsz := hg.few
  refine ⟨by decide, fun l hl => ?_⟩
  refine ⟨_, rfl, a, rfl, ⟨_, SqL.of (same_new (Same.refl H) hl _ _ ha)⟩, for_list (xs := rs.map V.str) (fun i σ H' => ∃ x D, σ = [some (.ref a), some (.ref l), x, none] ∧ partsTo (rs.take i) = some D ∧ Rd3 H H' l D)
   ⟨none, [], rfl, rfl, same_new (Same.refl H) hl, hl, [], upd_same, .nil, List.nodup_nil, by simp, by simp⟩ (fun i σ H' _ ⟨_, _, _, _, r⟩ => SqL.of (r.same _ _ ha)) ?_ ?_⟩
  ·rintro i x σ H1 hx ⟨_, D, rfl, eD0, ⟨s1, _, as, hH, hpr, hnd, hla, hnew⟩⟩
   have hlt : i < rs.length := by
    have := (List.getElem?_eq_some_iff.mp hx).1
    omega
   have ho : rs[i]? = some rs[i] := List.getElem?_eq_getElem hlt
   have hgo := hg.row _ (List.getElem_mem hlt)
   have hal : as.length = D.length := Paired.length hpr
   obtain ⟨_, hDl, hDp⟩ := partsTo_flat _ _ _ rfl eD0
   rw [List.length_take] at hDl hDp
   have hx2 : x = .str rs[i] := by
    rw [List.getElem?_map, ho] at hx
    cases hx
    rfl
   subst hx2
   have hsu := partsTo_succ ho
   rw [eD0] at hsu
   generalize rs[i] = r at ho hgo hsu ⊢
   have hsu' : partsTo (rs.take (i + 1)) = put1R D r := hsu
   unfold put1R at hsu'
   refine ⟨_, rfl, rfl, _, rfl, ?_⟩
   refine iteD (fun hc => ?_) (fun hc => ?_)
   ·rw [if_pos (str_inj hc)] at hsu'
    refine ⟨_, rfl, .inl ⟨rfl, _, SqL.of hH⟩, by decide, fun p hp => ?_⟩
    have hpl : p ≠ l := fun z => by rw [z, hH] at hp; cases hp
    refine ⟨l, as.map V.ref, .ref p, rfl, rfl, by rw [upd_ne (Ne.symm hpl)]; exact hH, small1000 (by rw [List.length_map]; omega), _, _, rfl, hsu', ?_⟩
    have hpa : p ∉ as := fun z => by
     obtain ⟨y, _, _, e, _⟩ := mem_paired hpr z
     rw [e] at hp; cases hp
    have sub : ∀ b, b ∈ l :: as ++ [p] → b ∈ p :: l :: as := fun b hb => by
     rcases List.mem_append.mp hb with h | h
     ·exact List.mem_cons_of_mem _ h
     ·rw [List.mem_singleton.mp h]; exact List.mem_cons_self
    refine ⟨same_upd (same_new s1 hp) hl, hl, as ++ [p], ?_, ?_, ?_, ?_, ?_⟩
    ·rw [upd_same, List.map_append]; rfl
    ·refine Paired.snoc (Paired.imp_mem hpr fun b hb q hq => ?_) ⟨[], ?_, .nil⟩
     ·have nbl : b ≠ l := fun z => hla (z ▸ hb)
      have nbp : b ≠ p := fun z => hpa (z ▸ hb)
      obtain ⟨wvs, e, r⟩ := hq
      refine IsOpW.upd ⟨wvs, by rw [upd_ne nbp]; exact e, Paired.mapP r fun _ _ z => ?_⟩ nbl List.mem_cons_self
      obtain ⟨c, e1, n1, h1⟩ := z.more hp
      refine ⟨c, e1, fun hm => n1 (sub c hm), ?_⟩
      rw [upd_ne fun z => n1 (by rw [z]; exact List.mem_cons_self)]
      exact h1
     ·rw [upd_ne hpl]; exact upd_same
    ·rw [List.nodup_append]
     refine ⟨hnd, by simp, fun b hb c hc => ?_⟩
     rw [List.mem_singleton] at hc
     subst hc
     intro z
     subst z
     exact hpa hb
    ·intro z
     rcases List.mem_append.mp z with h | h
     ·exact hla h
     ·rw [List.mem_singleton] at h; exact hpl h.symm
    ·intro b hb
     rcases List.mem_append.mp hb with h | h
     ·exact hnew b h
     ·rw [List.mem_singleton] at h
      rw [h]
      exact s1.free hp
   ·rw [if_neg (fun z => hc (by rw [z]))] at hsu'
    refine ⟨_, rfl, by decide, fun p0 n0 => ?_⟩
    have s0 := same_new (o := .lst []) (Same.refl H1) n0
    have hshape : shaped (.list (D.map datQ)) = true := shaped_map (fun q hq => (datQ_ok fun r hr => (hg.row r (List.mem_of_mem_take ((hDp q hq).2 r hr).1)).1).1) (fun q hq => Nat.le_trans (datQ_ok fun r hr => (hg.row r (List.mem_of_mem_take ((hDp q hq).2 r hr).1)).1).2 (by decide))
    refine eqL_nil (SqL.of (s0 _ _ hH)) (opws_dat (Paired.mapP hpr fun _ _ z => z.same s0)) hshape (SqL.of upd_same) ⟨_, rfl, ?_⟩
    rw [if_neg Bool.false_ne_true]
    refine iteD (fun z => ?_) (fun z => ?_)
    ·have eD : D = [] := List.map_eq_nil_iff.mp z
     rw [if_pos eD] at hsu'
     have e : lgood rs = false := by unfold lgood; rw [partsTo_none hsu']
     have kk := k _ (s1.trans s0)
     rw [e] at kk
     exact kk
    have hDne : D ≠ [] := fun e => z (by rw [e]; rfl)
    rw [if_neg hDne] at hsu'
    obtain ⟨as0, b, D0, q, eas, eD, hp0, hbq⟩ := Paired.snoc_inv hpr hDne
    have hat : atI (as.map V.ref) (-1) = some (.ref b) := by
     rw [eas, List.map_append]
     exact atI_last _ _
    obtain ⟨tvs, hbv, htv⟩ := id hbq
    have hbS : b ∈ l :: as := List.mem_cons_of_mem _ (by rw [eas]; simp)
    refine ⟨_, rfl, _, rfl, l, _, _, _, rfl, rfl, SqL.of (s0 _ _ hH), hat, .inl ⟨rfl, _, SqL.of (s0 _ _ hbv)⟩, _, rfl, rfl, r, _, rfl, rfl, by rw [bl32]; rfl, by have := hgo.2; omega, fun p hp => ?_⟩
    rw [bl32]
    have s2 := same_new (o := .lst ((Txt.split r (one 32)).map V.str)) s0 hp
    have hb2 := s2 _ _ hbv
    have hbl : b ≠ l := fun z => hla (by rw [eas, ← z]; simp)
    have hq5 : q.length ≤ i := by have := (hDp q (by rw [eD]; simp)).1; omega
    have hpS : p ∉ l :: as := fun z => by
     rcases List.mem_cons.mp z with y | y
     ·rw [y, s0 _ _ hH] at hp; cases hp
     ·obtain ⟨q', _, _, e, _⟩ := mem_paired hpr y
      rw [s0 _ _ e] at hp; cases hp
    have hpw : upd (upd H1 p0 (.lst [])) p (.lst ((Txt.split r (one 32)).map V.str)) p = some (.lst ((Txt.split r (one 32)).map V.str)) := upd_same
    generalize upd (upd H1 p0 (.lst [])) p (.lst ((Txt.split r (one 32)).map V.str)) = H2 at s2 hb2 hpw ⊢
    refine ⟨b, tvs, .ref p, rfl, rfl, hb2, small1000 ?_, _, _, rfl, hsu', ?_⟩
    ·have := Paired.length htv
     omega
    have eP : D.dropLast ++ [D.getLast?.getD [] ++ [r]] = D0 ++ [q ++ [r]] := by rw [eD]; simp
    rw [eP]
    refine ⟨same_upd (s1.trans s2) (hnew b (by rw [eas]; simp)), hl, as, ?_, ?_, hnd, hla, hnew⟩
    ·rw [upd_ne (Ne.symm hbl)]; exact s2 _ _ hH
    ·have key : Paired (IsOpW (l :: as) (upd H2 b (.lst (tvs ++ [.ref p])))) (as0 ++ [b]) (D0 ++ [q ++ [r]]) := by
      refine Paired.snoc (Paired.imp_mem hp0 fun c hc q' hq' => ?_) ⟨tvs ++ [.ref p], upd_same, ?_⟩
      ·have ncb : c ≠ b := by
        rw [eas, List.nodup_append] at hnd
        exact hnd.2.2 c hc b (by simp)
       exact (hq'.same s2).upd ncb hbS
      ·exact Paired.snoc (Paired.mapP htv fun _ _ z => (z.same s2).upd hbS) (IsWd.upd ⟨p, rfl, hpS, hpw⟩ hbS)
     rw [← eas] at key
     exact key
  ·rintro σ H1 ⟨x, D, rfl, eD0, ⟨s1, _, as, hH, hpr, hnd, hla, hnew⟩⟩
   rw [hrl, List.take_length] at eD0
   have hal : as.length = D.length := Paired.length hpr
   obtain ⟨_, hDl, hDp⟩ := partsTo_flat _ _ _ rfl eD0
   have eL : lgood rs = ((decide (1 ≤ D.length) && decide (D.length ≤ 4)) && D.all fun p => p.all fun r => lstep p.length (Txt.split r (one 32))) := by unfold lgood; rw [eD0]
   rw [eL] at k
   refine ⟨_, rfl, l, _, rfl, .inl (SqL.of hH), _, _, rfl, rfl, _, rfl, iteD (fun h1 => ?_) (fun h1 => ?_)⟩
   rotate_left
   ·rw [List.length_map] at h1
    have kk := k H1 s1
    rw [decide_eq_false (show ¬ 1 ≤ D.length by omega), Bool.false_and, Bool.false_and] at kk
    exact ⟨_, rfl, iteT kk⟩
   rw [List.length_map] at h1
   refine ⟨_, _, rfl, rfl, _, rfl, iteND (fun h2 => ?_) (fun h2 => ?_)⟩
   ·rw [List.length_map] at h2
    have kk := k H1 s1
    rw [decide_eq_false (show ¬ D.length ≤ 4 by omega), Bool.and_false, Bool.false_and] at kk
    exact kk
   rw [List.length_map] at h2
   rw [decide_eq_true (show 1 ≤ D.length by omega), decide_eq_true (show D.length ≤ 4 by omega), Bool.true_and, Bool.true_and] at k
   refine ⟨_, rfl, l, rfl, ⟨_, SqL.of hH⟩, for_list (xs := as.map V.ref) (fun i σ H' => ∃ y, σ = [some (.ref a), some (.ref l), x, y] ∧ Same H1 H' ∧ ((D.take i).all fun p => p.all fun r => lstep p.length (Txt.split r (one 32))) = true)
    ⟨none, rfl, Same.refl _, rfl⟩ (fun i σ H' _ ⟨_, _, s2, _⟩ => SqL.of (s2 _ _ hH)) ?_ ?_⟩
   ·rintro i v σ H2 hv ⟨y, rfl, s2, hall⟩
    have hlt : i < as.length := by
     have := (List.getElem?_eq_some_iff.mp hv).1
     rw [List.length_map] at this
     exact this
    rw [List.getElem?_map, List.getElem?_eq_getElem hlt] at hv
    cases hv
    obtain ⟨q, hq, wvs, hbv, hwv⟩ := Paired.at' hpr (List.getElem?_eq_getElem hlt)
    have hqm := List.mem_of_getElem? hq
    have hwl := Paired.length hwv
    obtain ⟨hql, hqr⟩ := hDp q hqm
    have hqa : ∀ r ∈ q, Asc r ∧ r.length ≤ 900 := fun r hr => hg.row r (hqr r hr).1
    refine ⟨_, rfl, as[i], rfl, ⟨_, SqL.of (s2 _ _ hbv)⟩, ?_⟩
    refine compW_of (n := wvs.length) (fun j ys H3 => j ≤ wvs.length ∧ Same H2 H3 ∧ Paired (IsWd (l :: as) H3) ys ((q.take j).filter fun r => !lstep q.length (Txt.split r (one 32)))) ?_ ?_ ?_ ?_ ?_ ?_ ?_
    ·exact Nat.le_of_lt (small1000 (by omega))
    ·exact ⟨Nat.zero_le _, Same.refl _, .nil⟩
    ·rintro j ys H3 ⟨_, _, e⟩
     rw [Paired.length e]
     have := List.length_filter_le (fun r => !lstep q.length (Txt.split r (one 32))) (q.take j)
     rw [List.length_take] at this
     omega
    ·rintro j ys H3 hj ⟨_, s3, _⟩
     exact ⟨_, wvs[j], SqL.of ((s2.trans s3) _ _ hbv), List.getElem?_eq_getElem hj⟩
    ·rintro ys H3 ⟨_, s3, _⟩
     exact ⟨_, SqL.of ((s2.trans s3) _ _ hbv), Nat.le_refl _⟩
    ·rintro j ys H3 hj ⟨_, s3, e⟩ z H4 ⟨eH, hz1⟩
     subst eH
     have hz := hz1 _ (SqL.of ((s2.trans s3) _ _ hbv))
     obtain ⟨r, hr, hrz⟩ := Paired.at' hwv hz
     have hrz4 := hrz.same (s2.trans s3)
     obtain ⟨c, rfl, hcn, hc⟩ := id hrz4
     obtain ⟨hra, hrl2⟩ := hqa r (List.mem_of_getElem? hr)
     obtain ⟨f1, f2⟩ := split_few r 32
     refine ⟨_, rfl, _, rfl, as[i], wvs, rfl, .inl (SqL.of ((s2.trans s3) _ _ hbv)), ?_⟩
     rw [hwl]
     refine ⟨c, _, q.length, rfl, hc, split_ne _ _, fun x hx => ⟨split_asc hra hx, by have := f1 x hx; omega⟩, by omega, fun H5 s5 => ⟨_, rfl, ?_⟩⟩
     have et : (q.take (j + 1)).filter (fun r => !lstep q.length (Txt.split r (one 32))) = (q.take j).filter (fun r => !lstep q.length (Txt.split r (one 32))) ++ (if (!lstep q.length (Txt.split r (one 32))) = true then [r] else []) := by
      rw [List.take_add_one, hr, List.filter_append]
      cases hh : (!lstep q.length (Txt.split r (one 32))) with
      | true => simp [List.filter, hh]
      | false => simp [List.filter, hh]
     rw [et]
     cases hst : lstep q.length (Txt.split r (one 32)) with
     | true =>
      refine iteF ⟨by omega, s3.trans s5, ?_⟩
      simp only [Bool.not_true, Bool.false_eq_true, if_false, List.append_nil]
      exact Paired.mapP e fun _ _ z => z.same s5
     | false =>
      refine iteT ⟨_, rfl, by omega, s3.trans s5, ?_⟩
      simp only [Bool.not_false, if_true]
      exact Paired.snoc (Paired.mapP e fun _ _ z => z.same s5) (hrz4.same s5)
    ·rintro ys H3 ⟨_, s3, e⟩
     rw [hwl, List.take_of_length_le (Nat.le_refl _)] at e
     have hfl := List.length_filter_le (fun r => !lstep q.length (Txt.split r (one 32))) q
     refine ⟨by rw [Paired.length e]; exact Nat.le_of_lt (small1000 (by omega)), fun r1 hr1 => ?_⟩
     have s4 := same_new (o := .lst ys) (Same.refl H3) hr1
     refine ⟨by decide, fun p0 n0 => ?_⟩
     have s5 := same_new (o := .lst []) (Same.refl _) n0
     have hF : ∀ r ∈ q.filter (fun r => !lstep q.length (Txt.split r (one 32))), Asc r := fun r hr => (hqa r (List.mem_filter.mp hr).1).1
     refine eqL_nil (ds := (q.filter fun r => !lstep q.length (Txt.split r (one 32))).map datW) (SqL.of (s5 _ _ upd_same)) (datVs_map (fun v r h => IsWd.dat h) (Paired.mapP e fun _ _ z => (z.same s4).same s5)) (shaped_map (fun r hr => (datW_ok (hF r hr)).1) (fun r hr => Nat.le_trans (datW_ok (hF r hr)).2 (by decide))) (SqL.of upd_same) ⟨_, rfl, ?_⟩
     rw [if_pos rfl]
     have s6 : Same H1 (upd (upd H3 r1 (.lst ys)) p0 (.lst [])) := (s2.trans s3).trans (s4.trans s5)
     refine iteND (fun hne => ?_) (fun heq => ?_)
     ·have kk := k _ (s1.trans s6)
      have ef : (D.all fun p => p.all fun r => lstep p.length (Txt.split r (one 32))) = false := by
       rw [List.all_eq_false]
       refine ⟨q, hqm, ?_⟩
       rw [Bool.not_eq_true, List.all_eq_false]
       have hne' : q.filter (fun r => !lstep q.length (Txt.split r (one 32))) ≠ [] := fun z => hne (by rw [z]; rfl)
       obtain ⟨r, hr⟩ := List.exists_mem_of_ne_nil _ hne'
       obtain ⟨h1, h2⟩ := List.mem_filter.mp hr
       exact ⟨r, h1, by rw [Bool.not_eq_true]; simpa using h2⟩
      rw [ef] at kk
      exact kk
     ·refine ⟨_, rfl, s6, ?_⟩
      have hq0 : q.filter (fun r => !lstep q.length (Txt.split r (one 32))) = [] := List.map_eq_nil_iff.mp heq
      rw [List.take_add_one, hq, List.all_append, hall, Bool.true_and]
      show (q.all (fun r => lstep q.length (Txt.split r (one 32))) && true) = true
      rw [Bool.and_true, List.all_eq_true]
      intro r hr
      have := List.filter_eq_nil_iff.mp hq0 r hr
      simpa using this
   ·rintro σ H2 ⟨y, rfl, s2, hall⟩
    rw [List.length_map, hal, List.take_length] at hall
    have kk := k _ (s1.trans s2)
    rw [hall] at kk
    exact kk
end
end TL
namespace TL
open PySem PySem.Spec PyProof.Rows PySem.SeqAt L2 L3 L4
def RowP (r : Str) : Prop := Asc r ∧ 10 ∉ r.cps.toList ∧ r.length ≤ 900
theorem cut_str (L : List Str) (lo hi : Option Int) : ∃ M : List Str, cutV (L.map V.str) lo hi = M.map V.str ∧ (∀ r ∈ M, r ∈ L) ∧ M.length ≤ L.length := by
 refine ⟨(L.drop (HT.sIx (L.map V.str).length 0 lo)).take (HT.sIx (L.map V.str).length (L.map V.str).length hi - HT.sIx (L.map V.str).length 0 lo), ?_, fun r hr => List.mem_of_mem_drop (List.mem_of_mem_take hr), ?_⟩
 ·unfold cutV
  rw [List.map_take, List.map_drop]
 ·rw [List.length_take, List.length_drop]
  omega
theorem ixN_nat {n j : Nat} (h : j < n) : ixN n (j : Int) = some j := by
 unfold ixN
 first | (rw [if_pos (by omega)]; simp; done) | (simp; omega)
theorem set_str (L : List Str) (j : Nat) (x : Str) : (L.map V.str).set j (.str x) = (L.set j x).map V.str := by rw [List.map_set]
theorem set_mem {L : List Str} {j : Nat} {x : Str} {R : Str → Prop} (h : ∀ r ∈ L, R r) (hx : R x) : ∀ r ∈ L.set j x, R r := fun r hr => by
 rcases List.mem_or_eq_of_mem_set hr with h1 | h1
 ·exact h r h1
 ·rw [h1]; exact hx
theorem app_mem {A B : List Str} {R : Str → Prop} (h : ∀ r ∈ A, R r) (h' : ∀ r ∈ B, R r) : ∀ r ∈ A ++ B, R r := fun r hr => by
 rcases List.mem_append.mp hr with z | z
 ·exact h r z
 ·exact h' r z
theorem one_mem {x : Str} {R : Str → Prop} (h : R x) : ∀ r ∈ [x], R r := fun r hr => by rw [List.mem_singleton.mp hr]; exact h
theorem rowP_nil : RowP (Str.ofString "") := ⟨fun c hc => (by cases hc), fun hc => (by cases hc), by decide⟩
section
variable {P : Program} {w : World} {K : W.Frag} {mg : Str → Option Value} {base : Heap}
def spByR : Sp := fun vs H Q _ => ∃ (l : Addr) (ps : List Pt) (c : Int), vs = [.ref l, .int c] ∧ H l = some (.lst ((rows ps).map V.str)) ∧ GoodP ps ∧ (rows ps).length ≤ 27 ∧ ∀ l' (L' : List Str) H', Same H H' → H' l' = some (.lst (L'.map V.str)) → (∀ r ∈ L', RowP r) → L'.length ≤ 60 → Q (.ref l') H'
theorem join_asc {c : Nat} {ws : List Str} (hc : c < 128) (h : ∀ w ∈ ws, Asc w) : Asc (Txt.join (one c) ws) := fun d hd => by
 rw [show Txt.join (one c) ws = Str.join (one c) ws from StrLaws.glued_eq_join _ _, join_signs] at hd
 rcases jl_mem hd with z | ⟨w, hw, z⟩
 ·omega
 ·obtain ⟨x, hx, rfl⟩ := List.mem_map.mp hw
  exact h x hx d z
theorem word7_asc : ∀ w ∈ words7, Asc w := by
 intro w hw c hc
 have h : ∀ w ∈ words7, w.cps.toList.all (fun c => decide (c < 128)) = true := by unfold words7; decide +kernel
 exact of_decide_eq_true (List.all_eq_true.mp (h w hw) c hc)
theorem wds_asc {sz : Nat} {t : Tl} (g : GoodT sz t) : ∀ w ∈ wdsOf t, Asc w := fun w hw => by
 rcases List.mem_cons.mp hw with e | h
 ·rw [e]; exact word7_asc _ g.word
 ·obtain ⟨n, _, rfl⟩ := List.mem_map.mp h
  exact num_asc n
theorem clerk_asc : Asc (Str.ofString "clerk") := fun c hc => by
 have h : (Str.ofString "clerk").cps.toList.all (fun c => decide (c < 128)) = true := by decide +kernel
 exact of_decide_eq_true (List.all_eq_true.mp h c hc)
theorem rows_P {ps : List Pt} (g : GoodP ps) : ∀ r ∈ rows ps, RowP r := fun r hr => by
 obtain ⟨h1, h2⟩ := rows_free g r hr
 refine ⟨?_, h1, by omega⟩
 obtain ⟨o, ho, rfl⟩ := List.mem_map.mp hr
 have go := g.toks o ho
 cases o with
 | none => exact clerk_asc
 | some t => exact join_asc (by decide) (wds_asc (go t rfl))
theorem rows_pos {ps : List Pt} (g : GoodP ps) : 0 < (rows ps).length := List.length_pos_iff.mpr (rows_ne g)
theorem scByR : FnScope ["_law_lines_here", "_law_cell", "_law_at", "_law_other", "_law_way", "_law_got"] ["_law_lines_here", "_law_cell"] (defScope sByRow) := ⟨rfl, rfl, rfl, by decide +kernel, rfl, by decide +kernel, by decide +kernel⟩
theorem str_at {L : List Str} {j : Nat} (h : j < L.length) : atI (L.map V.str) (j : Int) = some (.str L[j]) := atI_nat (by rw [List.getElem?_map, List.getElem?_eq_getElem h]; rfl)
theorem ok_ByR {f : Addr} {fd : FuncData} (F : Fun K "_law_by_row" "_law_by_row" sByRow f fd) (B : Bl mg) (hls : mg "list" = none) : FnOk P w K mg base CX0 1 f fd ["_law_lines_here", "_law_cell"] spByR := by
 refine F.ok scByR (fun vs H Q E h => ?_) (fun cdv A outer s H vs Q E hr h => ?_)
 ·obtain ⟨a, L, c, rfl, _⟩ := h
  rfl
 ·obtain ⟨l, ps, c, rfl, ha, hg, h27, k⟩ := h
  have hP := rows_P hg
  have hpos := rows_pos hg
  generalize rows ps = L at ha h27 hP hpos
  refine ⟨_, pss_cons (ps_set (i := 2) scByR.nd rfl (Or.inl rfl) (pe_op op_mod (pv 1) (pe_callB call_len_seq rfl B.len PySem.boot_len (pa_cons (pv 0) pa_nil))))
   (pss_cons (ps_set (i := 3) scByR.nd rfl (Or.inl rfl) (pe_op op_mod (pe_op op_fdiv (pv 1) pe_int) (pe_callB call_len_seq rfl B.len PySem.boot_len (pa_cons (pv 0) pa_nil))))
   (pss_cons (ps_set (i := 4) scByR.nd rfl (Or.inl rfl) (pe_op op_mod (pe_op op_fdiv (pv 1) pe_int) pe_int))
   (pss_cons (ps_if (pt_cmpR op_eq (pv 4) pe_int (nomark _)) (pss_one (ps_ret (pe_op op_cat (pe_slice sl_list (pv 0) po_none (po_some (pv 2))) (pe_slice sl_list (pv 0) (po_some (pe_op op_add (pv 2) pe_int)) po_none)))) pss_nil)
   (pss_cons (ps_if (pt_cmpR op_eq (pv 4) pe_int (nomark _)) (pss_one (ps_ret (pe_op op_cat (pe_slice sl_list (pv 0) po_none (po_some (pe_op op_add (pv 2) pe_int))) (pe_slice sl_list (pv 0) (po_some (pv 2)) po_none)))) pss_nil)
   (pss_cons (ps_if (pt_cmpR op_eq (pv 4) pe_int (nomark _)) (pss_cons (ps_set (i := 5) scByR.nd rfl (Or.inl rfl) (pe_callTy call_list_of rfl hls boot_list (pa_cons (pv 0) pa_nil)))
    (pss_cons (ps_asg (pe_ix ix_list (pv 0) (pv 3) (fun _ _ => rfl)) (pg_sub (pv 5) (pv 2) set_list)) (pss_cons (ps_asg (pe_ix ix_list (pv 0) (pv 2) (fun _ _ => rfl)) (pg_sub (pv 5) (pv 3) set_list)) (pss_one (ps_ret (pv 5)))))) pss_nil)
   (pss_cons (ps_if (pt_cmpR op_eq (pv 4) pe_int (nomark _)) (pss_one (ps_ret (pe_op op_cat (pe_op op_cat (pe_slice sl_list (pv 0) po_none (po_some (pv 2))) (pe_lst (pa_cons pe_str pa_nil))) (pe_slice sl_list (pv 0) (po_some (pv 2)) po_none)))) pss_nil)
   (pss_one (ps_ret (pe_ix ix_list (pe_lst (pa_cons (pe_op op_cat (pe_lst (pa_cons pe_str pa_nil)) (pv 0)) (pa_cons (pe_op op_cat (pv 0) (pe_lst (pa_cons pe_str pa_nil))) pa_nil))) (pe_op op_sub (pv 4) pe_int) (fun _ _ => rfl))))))))))
   , ?_⟩
  have hlm : (L.map V.str).length = L.length := List.length_map _
  obtain ⟨at_, hat, eat⟩ := mod_nat c hpos
  obtain ⟨ot, hot, eot⟩ := mod_nat (c / 40) hpos
  obtain ⟨wy, hwy, ewy⟩ := mod_nat (c / 1000) (show 0 < 6 by decide)
  refine ⟨_, rfl, _, rfl, l, _, rfl, .inl (SqL.of ha), _, _, rfl, rfl, by rw [hlm]; omega, gname_eq (y := .int (at_ : Int)) (by rw [hlm]; show V.int (c % (L.length : Int)) = _; rw [eat]) ?_⟩
  refine ⟨_, rfl, _, _, rfl, rfl, ⟨by decide, by decide⟩, _, rfl, l, _, rfl, .inl (SqL.of ha), _, _, rfl, rfl, by rw [hlm]; omega, gname_eq (y := .int (ot : Int)) (by rw [hlm]; show V.int (c / 40 % (L.length : Int)) = _; rw [eot]) ?_⟩
  refine ⟨_, rfl, _, _, rfl, rfl, ⟨by decide, by decide⟩, _, _, rfl, rfl, (by show (0 : Int) < 6; decide), gname_eq (y := .int (wy : Int)) (by show V.int (c / 1000 % 6) = _; rw [show c / 1000 % 6 = (wy : Int) from ewy]) ?_⟩
  refine ⟨_, rfl, rfl, _, rfl, iteD (fun h0 => ?_) (fun h0 => ?_)⟩
  ·obtain ⟨M1, e1, r1, n1⟩ := cut_str L none (some (at_ : Int))
   obtain ⟨M2, e2, r2, n2⟩ := cut_str L (some ((at_ : Int) + 1)) none
   refine ⟨_, rfl, _, rfl, _, rfl, l, _, rfl, SqL.of ha, fun p1 m1 => ?_⟩
   have s1 := same_new (o := .lst (cutV (L.map V.str) none (some (at_ : Int)))) (Same.refl H) m1
   refine ⟨_, rfl, _, rfl, _, _, rfl, rfl, _, rfl, l, _, rfl, SqL.of (s1 _ _ ha), fun p2 m2 => ?_⟩
   have s2 := same_new (o := .lst (cutV (L.map V.str) (some ((at_ : Int) + 1)) none)) s1 m2
   refine ⟨p1, p2, _, _, rfl, rfl, same_new (Same.refl _) m2 _ _ upd_same, upd_same, ?_, fun p3 m3 => ?_⟩
   ·rw [e1, e2, List.length_map, List.length_map]; exact Nat.le_of_lt (small1000 (by omega))
   ·refine k p3 (M1 ++ M2) _ (same_new s2 m3) (by rw [upd_same, e1, e2, List.map_append]) (app_mem (fun r h => hP r (r1 r h)) (fun r h => hP r (r2 r h))) (by rw [List.length_append]; omega)
  refine ⟨_, rfl, rfl, _, rfl, iteD (fun h1 => ?_) (fun h1 => ?_)⟩
  ·obtain ⟨M1, e1, r1, n1⟩ := cut_str L none (some ((at_ : Int) + 1))
   obtain ⟨M2, e2, r2, n2⟩ := cut_str L (some (at_ : Int)) none
   refine ⟨_, rfl, _, rfl, _, _, rfl, rfl, _, rfl, l, _, rfl, SqL.of ha, fun p1 m1 => ?_⟩
   have s1 := same_new (o := .lst (cutV (L.map V.str) none (some ((at_ : Int) + 1)))) (Same.refl H) m1
   refine ⟨_, rfl, _, rfl, _, rfl, l, _, rfl, SqL.of (s1 _ _ ha), fun p2 m2 => ?_⟩
   have s2 := same_new (o := .lst (cutV (L.map V.str) (some (at_ : Int)) none)) s1 m2
   refine ⟨p1, p2, _, _, rfl, rfl, same_new (Same.refl _) m2 _ _ upd_same, upd_same, ?_, fun p3 m3 => ?_⟩
   ·rw [e1, e2, List.length_map, List.length_map]; exact Nat.le_of_lt (small1000 (by omega))
   ·refine k p3 (M1 ++ M2) _ (same_new s2 m3) (by rw [upd_same, e1, e2, List.map_append]) (app_mem (fun r h => hP r (r1 r h)) (fun r h => hP r (r2 r h))) (by rw [List.length_append]; omega)
  refine ⟨_, rfl, rfl, _, rfl, iteD (fun h2 => ?_) (fun h2 => ?_)⟩
  ·refine ⟨_, rfl, l, _, rfl, .inl (SqL.of ha), fun g mg_ => ?_⟩
   have s1 := same_new (o := .lst (L.map V.str)) (Same.refl H) mg_
   have hgl : l ≠ g := ne_of_none ha mg_
   refine ⟨_, rfl, _, rfl, l, _, _, _, rfl, rfl, SqL.of (s1 _ _ ha), str_at hot, _, rfl, _, rfl, g, _, _, at_, rfl, rfl, upd_same, ?_, ?_⟩
   ·exact ixN_nat (by rw [hlm]; exact hat)
   rw [upd_upd, set_str]
   have s2 : Same H (upd H g (.lst ((L.set at_ L[ot]).map V.str))) := same_new (Same.refl H) mg_
   refine ⟨_, rfl, _, rfl, l, _, _, _, rfl, rfl, SqL.of (s2 _ _ ha), str_at hat, _, rfl, _, rfl, g, _, _, ot, rfl, rfl, upd_same, ?_, ?_⟩
   ·exact ixN_nat (by rw [List.length_map, List.length_set]; exact hot)
   rw [upd_upd, set_str]
   exact ⟨_, rfl, k g ((L.set at_ L[ot]).set ot L[at_]) _ (same_new (Same.refl H) mg_) upd_same (set_mem (set_mem hP (hP _ (List.getElem_mem hot))) (hP _ (List.getElem_mem hat))) (by rw [List.length_set, List.length_set]; omega)⟩
  refine ⟨_, rfl, rfl, _, rfl, iteD (fun h3 => ?_) (fun h3 => ?_)⟩
  ·obtain ⟨M1, e1, r1, n1⟩ := cut_str L none (some (at_ : Int))
   obtain ⟨M2, e2, r2, n2⟩ := cut_str L (some (at_ : Int)) none
   refine ⟨_, rfl, _, rfl, _, rfl, l, _, rfl, SqL.of ha, fun p1 m1 => ?_⟩
   have s1 := same_new (o := .lst (cutV (L.map V.str) none (some (at_ : Int)))) (Same.refl H) m1
   refine ⟨by show 1 ≤ sizeLine; decide, fun p2 m2 => ?_⟩
   have s2 := same_new (o := .lst [.str ""]) s1 m2
   refine ⟨p1, p2, _, _, rfl, rfl, same_new (Same.refl _) m2 _ _ upd_same, upd_same, ?_, fun p3 m3 => ?_⟩
   ·rw [e1, List.length_map]; exact Nat.le_of_lt (small1000 (by show _ + 1 ≤ 1000; omega))
   have s3 := same_new (o := .lst (cutV (L.map V.str) none (some (at_ : Int)) ++ [.str ""])) s2 m3
   refine ⟨_, rfl, _, rfl, _, rfl, l, _, rfl, SqL.of (s3 _ _ ha), fun p4 m4 => ?_⟩
   have s4 := same_new (o := .lst (cutV (L.map V.str) (some (at_ : Int)) none)) s3 m4
   refine ⟨p3, p4, _, _, rfl, rfl, same_new (Same.refl _) m4 _ _ upd_same, upd_same, ?_, fun p5 m5 => ?_⟩
   ·rw [e1, e2, List.length_append, List.length_map, List.length_map]; exact Nat.le_of_lt (small1000 (by show _ + 1 + _ ≤ 1000; omega))
   ·refine k p5 ((M1 ++ [Str.ofString ""]) ++ M2) _ (same_new s4 m5) (by rw [upd_same, e1, e2, List.map_append, List.map_append]; rfl) (app_mem (app_mem (fun r h => hP r (r1 r h)) (one_mem rowP_nil)) (fun r h => hP r (r2 r h))) (by rw [List.length_append, List.length_append]; show _ + 1 + _ ≤ 60; omega)
  refine ⟨by show 1 ≤ sizeLine; decide, fun p1 m1 => ?_⟩
  have s1 := same_new (o := .lst [.str ""]) (Same.refl H) m1
  refine ⟨_, rfl, p1, l, _, _, rfl, rfl, upd_same, s1 _ _ ha, by rw [hlm]; exact Nat.le_of_lt (small1000 (by show 1 + _ ≤ 1000; omega)), fun p2 m2 => ?_⟩
  have s2 := same_new (o := .lst ([.str ""] ++ L.map V.str)) s1 m2
  refine ⟨_, rfl, by show 1 ≤ sizeLine; decide, fun p3 m3 => ?_⟩
  have s3 := same_new (o := .lst [.str ""]) s2 m3
  refine ⟨l, p3, _, _, rfl, rfl, s3 _ _ ha, upd_same, by rw [hlm]; exact Nat.le_of_lt (small1000 (by show _ + 1 ≤ 1000; omega)), fun p4 m4 => ?_⟩
  have s4 := same_new (o := .lst (L.map V.str ++ [.str ""])) s3 m4
  have hp2 := ((same_new (o := .lst [.str ""]) (Same.refl _) m3).trans (same_new (o := .lst (L.map V.str ++ [.str ""])) (Same.refl _) m4)) _ _ (upd_same (a := p2) (o := .lst ([.str ""] ++ L.map V.str)))
  refine ⟨by show 2 ≤ sizeLine; decide, fun p5 m5 => ?_⟩
  have s5 := same_new (o := .lst [.ref p2, .ref p4]) s4 m5
  have hp2' := same_new (o := .lst [.ref p2, .ref p4]) (Same.refl _) m5 _ _ hp2
  have hp4' := same_new (o := .lst [.ref p2, .ref p4]) (Same.refl _) m5 _ _ (upd_same (a := p4) (o := .lst (L.map V.str ++ [.str ""])))
  have hw45 : wy = 4 ∨ wy = 5 := by
   have f0 : wy ≠ 0 := fun z => h0 (by rw [z]; rfl)
   have f1 : wy ≠ 1 := fun z => h1 (by rw [z]; rfl)
   have f2 : wy ≠ 2 := fun z => h2 (by rw [z]; rfl)
   have f3 : wy ≠ 3 := fun z => h3 (by rw [z]; rfl)
   omega
  rcases hw45 with rfl | rfl
  ·refine ⟨_, rfl, _, _, rfl, rfl, p5, _, _, .ref p2, rfl, rfl, SqL.of upd_same, atI_nat (j := 0) rfl, ?_⟩
   exact k p2 ([Str.ofString ""] ++ L) _ s5 (by rw [hp2', List.map_append]; rfl) (app_mem (one_mem rowP_nil) hP) (by rw [List.length_append]; show 1 + _ ≤ 60; omega)
  ·refine ⟨_, rfl, _, _, rfl, rfl, p5, _, _, .ref p4, rfl, rfl, SqL.of upd_same, atI_nat (j := 1) rfl, ?_⟩
   exact k p4 (L ++ [Str.ofString ""]) _ s5 (by rw [hp4', List.map_append]; rfl) (app_mem hP (one_mem rowP_nil)) (by rw [List.length_append]; show _ + 1 ≤ 60; omega)
end
end TL
namespace TL
open PySem PySem.Spec PyProof.Rows PySem.SeqAt L2 L3 L4
theorem op_mulS {X : Cx} : OpR X (binaryOp .Mult) (fun x y H Q => ∃ z i, x = .str z ∧ y = .int i ∧ z.length ≤ 16 ∧ -(2 ^ 63 : Int) ≤ i ∧ i ≤ 1048576 ∧ Q (.str (Txt.mul z i)) H) := by
 intro pins s σ H x y v u Q I rx ry h
 obtain ⟨z, i, rfl, rfl, h1, h2, h3, q⟩ := h
 obtain ⟨t, rfl⟩ := rx
 obtain ⟨t', rfl⟩ := ry
 exact PySem.W.KXi.mul rfl h1 h2 h3 fun t' k _ _ => ⟨.str _, H, I.tok _, ⟨_, rfl⟩, q⟩
theorem log_small61 {n : Nat} (h : n < 10 ^ 61) : n.log2 < 1920 := by
 by_cases e : n = 0
 ·subst e; decide
 ·rw [Nat.log2_lt e]
  exact Nat.lt_trans h (by decide +kernel)
theorem call_str_n61 {X : Cx} : CallR X (.type "str") (fun xs H Q => ∃ n : Nat, xs = [.int n] ∧ n < 10 ^ 61 ∧ Q (.str (L4.numS n)) H) := by
 intro pins s σ H xs us Q I r h
 obtain ⟨n, rfl, hn, q⟩ := h
 exact call_str_int pins s σ H _ us Q I r ⟨n, rfl, log_small61 hn, by rw [L4.numS_eq]; exact q⟩
def WordP (r : Str) : Prop := Asc r ∧ 10 ∉ r.cps.toList ∧ r.length ≤ 70
theorem wordP_dec {x : Str} (h : (x.cps.toList.all (fun c => decide (c < 128) && !decide (c = 10)) && decide (x.length ≤ 70)) = true) : WordP x := by
 rw [Bool.and_eq_true, decide_eq_true_eq, List.all_eq_true] at h
 refine ⟨fun c hc => ?_, fun hc => ?_, h.2⟩
 ·have := h.1 c hc
  rw [Bool.and_eq_true] at this
  exact of_decide_eq_true this.1
 ·have := h.1 10 hc
  rw [Bool.and_eq_true] at this
  simp at this
theorem num_free10 (n : Nat) : 10 ∉ (numS n).cps.toList := fun h => by
 rw [numS_signs] at h
 have := figs_ok n 10 h
 omega
theorem numP {n : Nat} (h : n < 10 ^ 61) : WordP (numS n) := ⟨num_asc n, num_free10 n, by rw [numS_len]; exact Nat.le_trans (figs_len h (by decide)) (by decide)⟩
theorem nought_P {x : Str} (h : WordP x) (hl : x.length ≤ 60) : WordP (Str.ofString "0" ++ x) := by
 have e : (Str.ofString "0" ++ x).cps.toList = 48 :: x.cps.toList := by
  show ((Str.ofString "0").cps ++ x.cps).toList = _
  rw [Array.toList_append]
  rfl
 refine ⟨fun c hc => ?_, fun hc => ?_, ?_⟩
 ·rw [e] at hc
  rcases List.mem_cons.mp hc with z | z
  ·omega
  ·exact h.1 c z
 ·rw [e] at hc
  rcases List.mem_cons.mp hc with z | z
  ·cases z
  ·exact h.2.1 z
 ·rw [app_len]
  show 1 + x.length ≤ 70
  omega
theorem join_rowP {W : List Str} (hl : W.length ≤ 10) (h : ∀ x ∈ W, WordP x) : RowP (Txt.join (one 32) W) := by
 refine ⟨join_asc (by decide) fun x hx => (h x hx).1, fun hc => ?_, ?_⟩
 ·rw [show Txt.join (one 32) W = Str.join (one 32) W from StrLaws.glued_eq_join _ _, join_signs] at hc
  rcases jl_mem hc with z | ⟨w, hw, z⟩
  ·cases z
  ·obtain ⟨x, hx, rfl⟩ := List.mem_map.mp hw
   exact (h x hx).2.1 z
 ·have h1 := StrLaws.join_length_le (one 32) W
  have e : Txt.join (one 32) W = Str.join (one 32) W := StrLaws.glued_eq_join _ _
  rw [← e] at h1
  have h2 := sum_le (B := 70) (l := W.map (·.length)) fun y hy => by
   obtain ⟨x, hx, rfl⟩ := List.mem_map.mp hy
   exact (h x hx).2.2
  rw [List.length_map] at h2
  have h4 : (one 32).length = 1 := rfl
  rw [h4] at h1
  have h5 : W.length * 70 ≤ 10 * 70 := Nat.mul_le_mul_right 70 hl
  omega
structure Wds (W : List Str) : Prop where
 lo : 1 ≤ W.length
 hi : W.length ≤ 3
 ok : ∀ x ∈ W, WordP x
 num : ∀ j, 1 ≤ j → j < W.length → ∃ n, W[j]? = some (numS n) ∧ n < 10 ^ 60
theorem row_wds {ps : List Pt} (g : GoodP ps) {r : Str} (hr : r ∈ rows ps) : Wds (Txt.split r (one 32)) := by
 obtain ⟨o, ho, rfl⟩ := List.mem_map.mp hr
 have go := g.toks o ho
 cases o with
 | none =>
  show Wds (Txt.split (Str.ofString "clerk") (one 32))
  rw [split_clerk]
  exact ⟨by decide, by decide, fun x hx => by rw [List.mem_singleton.mp hx]; exact wordP_dec (by decide +kernel), fun j h1 h2 => by simp at h2; omega⟩
 | some t =>
  have gt := go t rfl
  show Wds (Txt.split (rowS t) (one 32))
  rw [row_words gt]
  refine ⟨by unfold wdsOf; simp, words_len gt, fun x hx => ?_, fun j h1 h2 => ?_⟩
  ·obtain ⟨_, h2, h3⟩ := words_free gt x hx
   exact ⟨wds_asc gt x hx, h2, by omega⟩
  ·cases j with
   | zero => omega
   | succ j =>
    have hj : j < t.2.length := by
     unfold wdsOf at h2
     rw [List.length_cons, List.length_map] at h2
     omega
    refine ⟨t.2[j], ?_, gt.num _ (List.getElem_mem hj)⟩
    show (t.1 :: t.2.map numS)[j + 1]? = _
    rw [List.getElem?_cons_succ, List.getElem?_map, List.getElem?_eq_getElem hj]
    rfl
theorem scByW : FnScope ["_law_lines_here", "_law_cell", "_law_at", "_law_words", "_law_place", "_law_odd", "_law_way"] ["_law_lines_here", "_law_cell"] (defScope sByWord) := ⟨rfl, rfl, rfl, by decide +kernel, rfl, by decide +kernel, by decide +kernel⟩
abbrev wS (i : Nat) : Stmt := (defBody sByWord).getD i (.Pass ⟨0, 0, 0, 0⟩)
def subIn : Stmt → Expr
 | .Assign _ (.Subscript e _ _) _ => e
 | _ => .Constant .none 0 ⟨0, 0, 0, 0⟩
@[irreducible] def eOdd : Expr := subIn (wS 3)
theorem bodyW : ∃ p1 p2 p3 q1 q2 q3 q4 q5 m1 m2, defBody sByWord = [wS 0, wS 1, wS 2, .Assign [.Name "_law_odd" p1] (.Subscript eOdd (.BinOp (.BinOp (.Name "_law_cell" q1) .FloorDiv (.Constant (.int 1000) m1 q2) q3) .Mod (.Constant (.int 12) m2 q4) q5) p2) p3, wS 4, wS 5, wS 6] := by
 unfold eOdd
 exact ⟨_, _, _, _, _, _, _, _, _, _, rfl⟩
section
variable {X : Cx}
theorem nines {pre : L2.St → Prop} {m1 m2 : Nat} {p1 p2 p3 : Pos} : PE X (.BinOp (.Constant (.str "9") m1 p1) .Mult (.Constant (.int 61) m2 p2) p3) (tTx pre WordP) :=
 (pe_op op_mulS pe_str pe_int).imp fun σ H Q z => ⟨_, _, rfl, rfl, by decide +kernel, by decide, by decide, z.2 _ (wordP_dec (by decide +kernel))⟩
theorem pe_Odd {pre : L2.St → Prop} : PE X eOdd (tTL pre WordP 12) := by
 unfold eOdd
 refine @sl X pre WordP _ 12 _ (@sa_cons X pre WordP _ _ 11 ?h1 rfl (@sa_cons X pre WordP _ _ 10 ?h2 rfl (@sa_cons X pre WordP _ _ 9 ?h3 rfl (@sa_cons X pre WordP _ _ 8 ?h4 rfl (@sa_cons X pre WordP _ _ 7 ?h5 rfl (@sa_cons X pre WordP _ _ 6 ?h6 rfl (@sa_cons X pre WordP _ _ 5 ?h7 rfl (@sa_cons X pre WordP _ _ 4 ?h8 rfl (@sa_cons X pre WordP _ _ 3 ?h9 rfl (@sa_cons X pre WordP _ _ 2 ?h10 rfl (@sa_cons X pre WordP _ _ 1 ?h11 rfl (@sa_cons X pre WordP _ _ 0 ?h12 rfl sa_nil)))))))))))) (by decide)
 case h1 => exact s_con (wordP_dec (by decide +kernel))
 case h2 => exact s_con (wordP_dec (by decide +kernel))
 case h3 => exact s_con (wordP_dec (by decide +kernel))
 case h4 => exact s_con (wordP_dec (by decide +kernel))
 case h5 => exact s_con (wordP_dec (by decide +kernel))
 case h6 => exact s_con (wordP_dec (by decide +kernel))
 case h7 => exact s_con (wordP_dec (by decide +kernel))
 case h8 => exact s_con (wordP_dec (by decide +kernel))
 case h9 => exact s_con (wordP_dec (by decide +kernel))
 case h10 => exact s_con (wordP_dec (by decide +kernel))
 case h11 => exact nines
 case h12 => exact s_con (wordP_dec (by decide +kernel))
end
def tTail : TS := fun D σ H => ∃ (l : Addr) (c : Option V) (at_ : Int) (wl : Addr) (pl od wy : Option V) (L W : List Str), σ = [some (.ref l), c, some (.int at_), some (.ref wl), pl, od, wy] ∧ H l = some (.lst (L.map V.str)) ∧ H wl = some (.lst (W.map V.str)) ∧ L.length ≤ 27 ∧ (∀ r ∈ L, RowP r) ∧ W.length ≤ 10 ∧ (∀ x ∈ W, WordP x) ∧
 ∀ l' (L' : List Str) H', Same H H' → H' l' = some (.lst (L'.map V.str)) → (∀ r ∈ L', RowP r) → L'.length ≤ 60 → D.rt (.ref l') H'
section
variable {P : Program} {w : World} {K : PySem.W.Frag} {mg : Str → Option Value} {base : Heap}
theorem ok_ByW {f : Addr} {fd : FuncData} (F : Fun K "_law_by_word" "_law_by_word" sByWord f fd) (B : Bl mg) : FnOk P w K mg base CX0 1 f fd ["_law_lines_here", "_law_cell"] spByR := by
 refine F.ok scByW (fun vs H Q E h => ?_) (fun cdv A outer s H vs Q E hr h => ?_)
 ·obtain ⟨a, L, c, rfl, _⟩ := h
  rfl
 ·obtain ⟨l, ps, c, rfl, ha, hg, h27, k⟩ := h
  have hP := rows_P hg
  have hpos := rows_pos hg
  have hWd : ∀ r ∈ rows ps, Wds (Txt.split r (one 32)) := fun r hr => row_wds hg hr
  generalize rows ps = L at ha h27 hP hpos hWd
  obtain ⟨p1, p2, p3, q1, q2, q3, q4, q5, m1, m2, eb⟩ := bodyW
  rw [eb]
  refine ⟨_, pss_cons (ps_set (i := 2) scByW.nd rfl (Or.inl rfl) (pe_op op_mod (pv 1) (pe_callB call_len_seq rfl B.len PySem.boot_len (pa_cons (pv 0) pa_nil))))
   (pss_cons (ps_set (i := 3) scByW.nd rfl (Or.inl rfl) (pe_bm PySem.F.plainAttrs_str PySem.F.slot_str_split PySem.F.type_str_split mt_split (pe_ix ix_list (pv 0) (pv 2) (fun _ _ => rfl)) (pa_cons pe_str pa_nil)))
   (pss_cons (ps_set (i := 4) scByW.nd rfl (Or.inl rfl) (pe_op op_mod (pe_op op_fdiv (pv 1) pe_int) (pe_callB call_len_seq rfl B.len PySem.boot_len (pa_cons (pv 3) pa_nil))))
   (pss_cons (ps_set (i := 5) scByW.nd rfl (Or.inl rfl) (pe_ix ix_list (pe_Odd (pre := fun _ => True)) (pe_op op_mod (pe_op op_fdiv (pv 1) pe_int) pe_int) (fun _ _ => rfl)))
   (pss_cons (ps_set (i := 6) scByW.nd rfl (Or.inl rfl) (pe_op op_mod (pe_op op_fdiv (pv 1) pe_int) pe_int))
   (pss_cons (ps_if (pt_cmpR op_eq (pv 6) pe_int (nomark _)) (pss_one (ps_set (i := 3) scByW.nd rfl (Or.inl rfl) (pe_op op_cat (pe_slice sl_list (pv 3) po_none (po_some (pv 4))) (pe_slice sl_list (pv 3) (po_some (pe_op op_add (pv 4) pe_int)) po_none))))
    (pss_one (ps_if (pt_cmpR op_eq (pv 6) pe_int (nomark _)) (pss_one (ps_set (i := 3) scByW.nd rfl (Or.inl rfl) (pe_op op_cat (pe_op op_cat (pe_slice sl_list (pv 3) po_none (po_some (pv 4))) (pe_lst (pa_cons (pv 5) pa_nil))) (pe_slice sl_list (pv 3) (po_some (pv 4)) po_none))))
    (pss_one (ps_if (PW.pt (pw_or (pt_cmpR op_eq (pv 6) pe_int (nomark _)) (pw_or1 (pt_cmpR op_eq (pv 4) pe_int (nomark _))))) (pss_one (ps_set (i := 3) scByW.nd rfl (Or.inl rfl) (pe_op op_cat (pe_op op_cat (pe_slice sl_list (pv 3) po_none (po_some (pv 4))) (pe_lst (pa_cons (pv 5) pa_nil))) (pe_slice sl_list (pv 3) (po_some (pe_op op_add (pv 4) pe_int)) po_none))))
    (pss_one (ps_if (pt_cmpR op_eq (pv 6) pe_int (nomark _)) (pss_one (ps_asg (pe_op op_add_str pe_str (pe_ix ix_list (pv 3) (pv 4) (fun _ _ => rfl))) (pg_sub (pv 3) (pv 4) set_list)))
    (pss_one (ps_asg (pe_callTy call_str_n61 rfl B.str boot_str (pa_cons (pe_op op_add (pe_callTy call_int_num rfl B.int boot_int (pa_cons (pe_ix ix_list (pv 3) (pv 4) (fun _ _ => rfl)) pa_nil)) (pe_ix ix_list (pe_lst (pa_cons pe_int (pa_cons (pe_op op_pow pe_int pe_int) pa_nil))) (pe_op op_mod (pe_op op_fdiv (pv 1) pe_int) pe_int) (fun _ _ => rfl))) pa_nil)) (pg_sub (pv 3) (pv 4) set_list))))))))))
   (PSs.imp (t' := tTail) (pss_one (ps_ret (pe_op op_cat (pe_op op_cat (pe_slice sl_list (pv 0) po_none (po_some (pv 2))) (pe_lst (pa_cons (pe_bm PySem.F.plainAttrs_str PySem.F.slot_str_join PySem.F.type_str_join mt_join pe_str (pa_cons (pv 3) pa_nil)) pa_nil))) (pe_slice sl_list (pv 0) (po_some (pe_op op_add (pv 2) pe_int)) po_none)))) ?tl)))))), ?_⟩
  case tl =>
   rintro D σ H ⟨l, c, at_, wl, pl, od, wy, L, W, rfl, ha, hw, h27, hP, hWl, hW, k⟩
   obtain ⟨M1, e1, r1, n1⟩ := cut_str L none (some at_)
   obtain ⟨M2, e2, r2, n2⟩ := cut_str L (some (at_ + 1)) none
   refine ⟨_, rfl, _, rfl, _, rfl, l, _, rfl, SqL.of ha, fun x1 m1 => ?_⟩
   have s1 := same_new (o := .lst (cutV (L.map V.str) none (some at_))) (Same.refl H) m1
   refine ⟨rfl, _, rfl, _, wl, W, rfl, rfl, SqL.of (s1 _ _ hw), ?_, ?_⟩
   ·rw [bl32]
    exact join_ok (B := 70) (fun x hx => (hW x hx).2.2) (by omega)
   rw [bl32]
   refine ⟨by show 1 ≤ sizeLine; decide, fun x2 m2 => ?_⟩
   have s2 := same_new (o := .lst [.str (Txt.join (one 32) W)]) s1 m2
   refine ⟨x1, x2, _, _, rfl, rfl, same_new (Same.refl _) m2 _ _ upd_same, upd_same, ?_, fun x3 m3 => ?_⟩
   ·rw [e1, List.length_map]; exact Nat.le_of_lt (small1000 (by show _ + 1 ≤ 1000; omega))
   have s3 := same_new (o := .lst (cutV (L.map V.str) none (some at_) ++ [.str (Txt.join (one 32) W)])) s2 m3
   refine ⟨_, rfl, _, rfl, _, _, rfl, rfl, _, rfl, l, _, rfl, SqL.of (s3 _ _ ha), fun x4 m4 => ?_⟩
   have s4 := same_new (o := .lst (cutV (L.map V.str) (some (at_ + 1)) none)) s3 m4
   refine ⟨x3, x4, _, _, rfl, rfl, same_new (Same.refl _) m4 _ _ upd_same, upd_same, ?_, fun x5 m5 => ?_⟩
   ·rw [e1, e2, List.length_append, List.length_map, List.length_map]; exact Nat.le_of_lt (small1000 (by show _ + 1 + _ ≤ 1000; omega))
   ·exact k x5 ((M1 ++ [Txt.join (one 32) W]) ++ M2) _ (same_new s4 m5) (by rw [upd_same, e1, e2, List.map_append, List.map_append]; rfl) (app_mem (app_mem (fun r h => hP r (r1 r h)) (one_mem (join_rowP hWl hW))) (fun r h => hP r (r2 r h))) (by rw [List.length_append, List.length_append]; show _ + 1 + _ ≤ 60; omega)
  have hlm : (L.map V.str).length = L.length := List.length_map _
  obtain ⟨at_, hat, eat⟩ := mod_nat c hpos
  refine ⟨_, rfl, _, rfl, l, _, rfl, .inl (SqL.of ha), _, _, rfl, rfl, by rw [hlm]; omega, gname_eq (y := .int (at_ : Int)) (by rw [hlm]; show V.int (c % (L.length : Int)) = _; rw [eat]) ?_⟩
  have hWr := hWd _ (List.getElem_mem hat)
  have hrl := (hP _ (List.getElem_mem hat)).2.2
  refine ⟨_, rfl, _, rfl, l, _, _, _, rfl, rfl, SqL.of ha, str_at hat, rfl, _, _, rfl, rfl, by rw [bl32]; rfl, by omega, fun wl nwl => ?_⟩
  rw [bl32]
  generalize Txt.split L[at_] (one 32) = W at hWr ⊢
  have s0 := same_new (o := .lst (W.map V.str)) (Same.refl H) nwl
  have hw0 : upd H wl (.lst (W.map V.str)) wl = some (.lst (W.map V.str)) := upd_same
  have hlo := hWr.lo
  have hhi := hWr.hi
  obtain ⟨pl, hpl, epl⟩ := mod_nat (c / 40) (show 0 < W.length by omega)
  have hwm : (W.map V.str).length = W.length := List.length_map _
  refine ⟨_, rfl, _, _, rfl, rfl, ⟨by decide, by decide⟩, _, rfl, wl, _, rfl, .inl (SqL.of hw0), _, _, rfl, rfl, by rw [hwm]; omega, gname_eq (y := .int (pl : Int)) (by rw [hwm]; show V.int (c / 40 % (W.length : Int)) = _; rw [epl]) ?_⟩
  refine ⟨True.intro, fun ol O on oP m1 => ?_⟩
  have s1 := same_new (o := .lst (O.map V.str)) s0 m1
  obtain ⟨ov, hov, hom⟩ := at_mem (xs := O.map V.str) (d := c / 1000) (n := 12) (by rw [List.length_map, on]) (by decide)
  obtain ⟨od, hod, rfl⟩ := List.mem_map.mp hom
  have hoP := oP od hod
  refine ⟨_, rfl, _, _, rfl, rfl, ⟨by decide, by decide⟩, _, _, rfl, rfl, (by show (0 : Int) < 12; decide), ol, _, _, .str od, rfl, rfl, SqL.of upd_same, hov, ?_⟩
  have hw1 := same_new (o := .lst (O.map V.str)) (Same.refl _) m1 _ _ hw0
  have ha1 := s1 _ _ ha
  generalize upd (upd H wl (.lst (W.map V.str))) ol (.lst (O.map V.str)) = H1 at s1 hw1 ha1 ⊢
  obtain ⟨wy, hwy, ewy⟩ := mod_nat (c / 12000) (show 0 < 5 by decide)
  refine ⟨_, rfl, _, _, rfl, rfl, ⟨by decide, by decide⟩, _, _, rfl, rfl, (by show (0 : Int) < 5; decide), gname_eq (y := .int (wy : Int)) (by show V.int (c / 12000 % 5) = _; rw [show c / 12000 % 5 = (wy : Int) from ewy]) ?_⟩
  have tail : ∀ (wl' : Addr) (W' : List Str) (H' : Hp), Same H H' → H' wl' = some (.lst (W'.map V.str)) → W'.length ≤ 10 → (∀ x ∈ W', WordP x) → tTail { nx := fun _ H' => Q .non H', rt := Q } [some (.ref l), some (.int c), some (.int (at_ : Int)), some (.ref wl'), some (.int (pl : Int)), some (.str od), some (.int (wy : Int))] H' := fun wl' W' H' s' h' hl' hp' =>
   ⟨l, _, _, wl', _, _, _, L, W', rfl, s' _ _ ha, h', h27, hP, hl', hp', fun l2 L2 H2 s2 h2 hr2 hl2 => k l2 L2 H2 (s'.trans s2) h2 hr2 hl2⟩
  obtain ⟨A1, a1, ar1, an1⟩ := cut_str W none (some (pl : Int))
  obtain ⟨A2, a2, ar2, an2⟩ := cut_str W (some ((pl : Int) + 1)) none
  obtain ⟨A3, a3, ar3, an3⟩ := cut_str W (some (pl : Int)) none
  have fin1 : ∀ r ∈ A1, WordP r := fun r h => hWr.ok r (ar1 r h)
  have fin2 : ∀ r ∈ A2, WordP r := fun r h => hWr.ok r (ar2 r h)
  have fin3 : ∀ r ∈ A3, WordP r := fun r h => hWr.ok r (ar3 r h)
  refine ⟨_, rfl, rfl, _, rfl, iteD (fun h0 => ?_) (fun h0 => ?_)⟩
  ·refine ⟨_, rfl, _, rfl, _, rfl, wl, _, rfl, SqL.of hw1, fun x1 m1 => ?_⟩
   have t1 := same_new (o := .lst (cutV (W.map V.str) none (some (pl : Int)))) (Same.refl H1) m1
   refine ⟨_, rfl, _, rfl, _, _, rfl, rfl, _, rfl, wl, _, rfl, SqL.of (t1 _ _ hw1), fun x2 m2 => ?_⟩
   have t2 := same_new (o := .lst (cutV (W.map V.str) (some ((pl : Int) + 1)) none)) t1 m2
   refine ⟨x1, x2, _, _, rfl, rfl, same_new (Same.refl _) m2 _ _ upd_same, upd_same, ?_, fun x3 m3 => ?_⟩
   ·rw [a1, a2, List.length_map, List.length_map]; exact Nat.le_of_lt (small1000 (by omega))
   ·exact tail x3 (A1 ++ A2) _ (s1.trans (same_new t2 m3)) (by rw [upd_same, a1, a2, List.map_append]) (by rw [List.length_append]; omega) (app_mem fin1 fin2)
  refine ⟨_, rfl, rfl, _, rfl, iteD (fun h1 => ?_) (fun h1 => ?_)⟩
  ·refine ⟨_, rfl, _, rfl, _, rfl, wl, _, rfl, SqL.of hw1, fun x1 m1 => ?_⟩
   have t1 := same_new (o := .lst (cutV (W.map V.str) none (some (pl : Int)))) (Same.refl H1) m1
   refine ⟨_, rfl, by show 1 ≤ sizeLine; decide, fun x2 m2 => ?_⟩
   have t2 := same_new (o := .lst [.str od]) t1 m2
   refine ⟨x1, x2, _, _, rfl, rfl, same_new (Same.refl _) m2 _ _ upd_same, upd_same, ?_, fun x3 m3 => ?_⟩
   ·rw [a1, List.length_map]; exact Nat.le_of_lt (small1000 (by show _ + 1 ≤ 1000; omega))
   have t3 := same_new (o := .lst (cutV (W.map V.str) none (some (pl : Int)) ++ [.str od])) t2 m3
   refine ⟨_, rfl, _, rfl, _, rfl, wl, _, rfl, SqL.of (t3 _ _ hw1), fun x4 m4 => ?_⟩
   have t4 := same_new (o := .lst (cutV (W.map V.str) (some (pl : Int)) none)) t3 m4
   refine ⟨x3, x4, _, _, rfl, rfl, same_new (Same.refl _) m4 _ _ upd_same, upd_same, ?_, fun x5 m5 => ?_⟩
   ·rw [a1, a3, List.length_append, List.length_map, List.length_map]; exact Nat.le_of_lt (small1000 (by show _ + 1 + _ ≤ 1000; omega))
   ·exact tail x5 ((A1 ++ [od]) ++ A3) _ (s1.trans (same_new t4 m5)) (by rw [upd_same, a1, a3, List.map_append, List.map_append]; rfl) (by rw [List.length_append, List.length_append]; show _ + 1 + _ ≤ 10; omega) (app_mem (app_mem fin1 (one_mem hoP)) fin3)
  refine ⟨_, rfl, rfl, _, rfl, iteD (fun h2 => iteT ?_) (fun h2 => ?_)⟩
  ·refine ⟨_, rfl, _, rfl, _, rfl, wl, _, rfl, SqL.of hw1, fun x1 m1 => ?_⟩
   have t1 := same_new (o := .lst (cutV (W.map V.str) none (some (pl : Int)))) (Same.refl H1) m1
   refine ⟨_, rfl, by show 1 ≤ sizeLine; decide, fun x2 m2 => ?_⟩
   have t2 := same_new (o := .lst [.str od]) t1 m2
   refine ⟨x1, x2, _, _, rfl, rfl, same_new (Same.refl _) m2 _ _ upd_same, upd_same, ?_, fun x3 m3 => ?_⟩
   ·rw [a1, List.length_map]; exact Nat.le_of_lt (small1000 (by show _ + 1 ≤ 1000; omega))
   have t3 := same_new (o := .lst (cutV (W.map V.str) none (some (pl : Int)) ++ [.str od])) t2 m3
   refine ⟨_, rfl, _, rfl, _, _, rfl, rfl, _, rfl, wl, _, rfl, SqL.of (t3 _ _ hw1), fun x4 m4 => ?_⟩
   have t4 := same_new (o := .lst (cutV (W.map V.str) (some ((pl : Int) + 1)) none)) t3 m4
   refine ⟨x3, x4, _, _, rfl, rfl, same_new (Same.refl _) m4 _ _ upd_same, upd_same, ?_, fun x5 m5 => ?_⟩
   ·rw [a1, a2, List.length_append, List.length_map, List.length_map]; exact Nat.le_of_lt (small1000 (by show _ + 1 + _ ≤ 1000; omega))
   ·exact tail x5 ((A1 ++ [od]) ++ A2) _ (s1.trans (same_new t4 m5)) (by rw [upd_same, a1, a2, List.map_append, List.map_append]; rfl) (by rw [List.length_append, List.length_append]; show _ + 1 + _ ≤ 10; omega) (app_mem (app_mem fin1 (one_mem hoP)) fin2)
  refine ⟨_, rfl, rfl, _, rfl, iteD (fun h3 => ?_) (fun h3 => ?_)⟩
  ·refine ⟨_, rfl, _, rfl, _, rfl, wl, _, rfl, SqL.of hw1, fun x1 m1 => ?_⟩
   have t1 := same_new (o := .lst (cutV (W.map V.str) none (some (pl : Int)))) (Same.refl H1) m1
   refine ⟨_, rfl, by show 1 ≤ sizeLine; decide, fun x2 m2 => ?_⟩
   have t2 := same_new (o := .lst [.str od]) t1 m2
   refine ⟨x1, x2, _, _, rfl, rfl, same_new (Same.refl _) m2 _ _ upd_same, upd_same, ?_, fun x3 m3 => ?_⟩
   ·rw [a1, List.length_map]; exact Nat.le_of_lt (small1000 (by show _ + 1 ≤ 1000; omega))
   have t3 := same_new (o := .lst (cutV (W.map V.str) none (some (pl : Int)) ++ [.str od])) t2 m3
   refine ⟨_, rfl, _, rfl, _, _, rfl, rfl, _, rfl, wl, _, rfl, SqL.of (t3 _ _ hw1), fun x4 m4 => ?_⟩
   have t4 := same_new (o := .lst (cutV (W.map V.str) (some ((pl : Int) + 1)) none)) t3 m4
   refine ⟨x3, x4, _, _, rfl, rfl, same_new (Same.refl _) m4 _ _ upd_same, upd_same, ?_, fun x5 m5 => ?_⟩
   ·rw [a1, a2, List.length_append, List.length_map, List.length_map]; exact Nat.le_of_lt (small1000 (by show _ + 1 + _ ≤ 1000; omega))
   ·exact tail x5 ((A1 ++ [od]) ++ A2) _ (s1.trans (same_new t4 m5)) (by rw [upd_same, a1, a2, List.map_append, List.map_append]; rfl) (by rw [List.length_append, List.length_append]; show _ + 1 + _ ≤ 10; omega) (app_mem (app_mem fin1 (one_mem hoP)) fin2)
  have hpl1 : 1 ≤ pl := by
   have : pl ≠ 0 := fun z => h3 (by rw [z]; rfl)
   omega
  obtain ⟨n, hn, hn60⟩ := hWr.num pl hpl1 hpl
  have eWp : W[pl] = numS n := by
   rw [List.getElem?_eq_getElem hpl] at hn
   exact Option.some.inj hn
  have hPp := hWr.ok _ (List.getElem_mem hpl)
  have hl60 : W[pl].length ≤ 60 := by rw [eWp, numS_len]; exact figs_len hn60 (by decide)
  have hnwl : H wl = none := nwl
  refine ⟨_, rfl, rfl, _, rfl, iteD (fun h4 => ?_) (fun h4 => ?_)⟩
  ·refine ⟨_, rfl, _, rfl, wl, _, _, _, rfl, rfl, SqL.of hw1, str_at hpl, _, _, rfl, rfl, Nat.le_of_lt (small1000 (by show 1 + W[pl].length ≤ 1000; omega)), _, rfl, _, rfl, wl, _, _, pl, rfl, rfl, hw1, ixN_nat (by rw [hwm]; exact hpl), ?_⟩
   rw [set_str]
   exact tail wl (W.set pl (Str.ofString "0" ++ W[pl])) _ (same_upd s1 hnwl) upd_same (by rw [List.length_set]; omega) (set_mem hWr.ok (nought_P hPp hl60))
  ·refine ⟨_, rfl, _, rfl, wl, _, _, _, rfl, rfl, SqL.of hw1, str_at hpl, n, by rw [eWp], hn60, ?_⟩
   refine ⟨_, _, rfl, rfl, ⟨by decide, by decide, by decide⟩, by show 2 ≤ sizeLine; decide, fun x1 m1 => ?_⟩
   have t1 := same_new (o := .lst [.int 1, .int (10 ^ (60 : Int).toNat)]) (Same.refl H1) m1
   obtain ⟨b, hb, eb2⟩ := mod_nat (c / 60000) (show 0 < 2 by decide)
   have hnum : ∃ m : Nat, m ≤ 10 ^ 60 ∧ atI [V.int 1, V.int (10 ^ (60 : Int).toNat)] (c / 60000 % 2) = some (.int (m : Int)) := by
    rw [show c / 60000 % 2 = (b : Int) from eb2]
    have h2 : b = 0 ∨ b = 1 := by omega
    rcases h2 with rfl | rfl
    ·exact ⟨1, by decide +kernel, atI_nat (j := 0) rfl⟩
    ·refine ⟨10 ^ 60, Nat.le_refl _, atI_nat (j := 1) ?_⟩
     have e60 : (10 : Int) ^ (60 : Int).toNat = ((10 ^ 60 : Nat) : Int) := by decide +kernel
     rw [e60]
     rfl
   obtain ⟨m, hm, hat2⟩ := hnum
   refine ⟨_, rfl, _, _, rfl, rfl, ⟨by decide, by decide⟩, _, _, rfl, rfl, (by show (0 : Int) < 2; decide), x1, _, _, _, rfl, rfl, SqL.of upd_same, hat2, ?_⟩
   have hsum : n + m < 10 ^ 61 := by
    have h2 : 2 * 10 ^ 60 < 10 ^ 61 := by decide +kernel
    omega
   refine ⟨_, _, rfl, rfl, n + m, by show [V.int ((n : Int) + (m : Int))] = _; rw [← Int.natCast_add], hsum, ?_⟩
   have hw2 := t1 _ _ hw1
   refine ⟨_, rfl, _, rfl, wl, _, _, pl, rfl, rfl, hw2, ixN_nat (by rw [hwm]; exact hpl), ?_⟩
   rw [set_str]
   exact tail wl (W.set pl (numS (n + m))) _ (same_upd (s1.trans t1) hnwl) upd_same (by rw [List.length_set]; omega) (set_mem hWr.ok (numP hsum))
end
end TL
namespace TL
open PySem PySem.Spec PyProof.Rows PySem.SeqAt L2 L3 L4
theorem BadText.same {H H' : Hp} {v : V} (s : Same H H') (h : BadText H v) : BadText H' v := by
 rcases h with ⟨T, h1, h2⟩ | h
 ·exact .inl ⟨T, tyName_same s h1, h2⟩
 ·exact .inr h
def badB (x : Str) : Bool := decide (x.length ≤ 1000000) && (decide ((Txt.split x (one 10)).length ≤ 120) && ((Txt.split x (one 10)).all (fun r => r.cps.toList.all (fun c => decide (c < 128)) && decide (r.length ≤ 900)) && !lgood (Txt.split x (one 10))))
theorem bad_str {H : Hp} {x : Str} (h : badB x = true) : BadText H (.str x) := by
 unfold badB at h
 rw [Bool.and_eq_true, Bool.and_eq_true, Bool.and_eq_true, decide_eq_true_eq, decide_eq_true_eq, List.all_eq_true, Bool.not_eq_true'] at h
 obtain ⟨h1, h2, h3, h4⟩ := h
 refine .inr ⟨x, rfl, h1, ⟨h2, fun r hr => ?_⟩, lgood_no h2 h4⟩
 have := h3 r hr
 rw [Bool.and_eq_true, decide_eq_true_eq, List.all_eq_true] at this
 exact ⟨fun c hc => of_decide_eq_true (this.1 c hc), this.2⟩
def preB (σ : L2.St) (H : Hp) : Prop := ∃ l xs, σ[1]? = some (some (.ref l)) ∧ H l = some (.lst xs)
def tBd : TE := fun σ H Q => preB σ H ∧ ∀ v H', Same H H' → BadText H' v → Q v H'
def tBdA (n : Nat) : TA := fun σ H Q => preB σ H ∧ ∀ (vs : List V) H', vs.length = n → Same H H' → (∀ v ∈ vs, BadText H' v) → Q vs H'
def tBdL (n : Nat) : TE := fun σ H Q => preB σ H ∧ ∀ l (vs : List V) H', vs.length = n → Same H H' → H' l = some (.lst vs) → (∀ v ∈ vs, BadText H' v) → Q (.ref l) H'
theorem preB.same {σ : L2.St} {H H' : Hp} (p : preB σ H) (s : Same H H') : preB σ H' := let ⟨l, xs, h1, h2⟩ := p; ⟨l, xs, h1, s _ _ h2⟩
section
variable {X : Cx} {e : Expr} {es : List Expr} {n m m2 : Nat} {p q r r2 r3 : Pos}
theorem bda_nil : PA X [] (tBdA 0) := pa_nil.imp fun _ H _ h => h.2 [] H rfl (Same.refl H) (fun _ z => by cases z)
theorem bda_cons (he : PE X e tBd) (hn : notStar e = true) (hr : PA X es (tBdA n)) : PA X (e :: es) (tBdA (n + 1)) := (pa_cons he hr (se_any hn)).imp fun σ H Q h =>
 ⟨h.1, fun v H1 s1 hv => ⟨h.1.same s1, fun vs H2 hl s2 hvs => h.2 (v :: vs) H2 (by rw [List.length_cons, hl]) (s1.trans s2) fun x hx => by rcases List.mem_cons.mp hx with e | e; (rw [e]; exact hv.same s2); exact hvs x e⟩⟩
theorem bdl (h : PA X es (tBdA n)) (hn : n ≤ 1000) : PE X (.List es p) (tBdL n) := (pe_lst h).imp fun σ H Q q =>
 ⟨q.1, fun vs H1 hl s1 hvs => ⟨Nat.le_of_lt (small1000 (by omega)), fun r hr => q.2 r vs _ hl (same_new s1 hr) upd_same fun v hv => (hvs v hv).same (same_new (Same.refl _) hr)⟩⟩
theorem b_non : PE X (.Constant .none m p) tBd := pe_non.imp fun σ H Q q => q.2 _ H (Same.refl H) (.inl ⟨_, rfl, rfl⟩)
theorem b_int {i : Int} : PE X (.Constant (.int i) m p) tBd := pe_int.imp fun σ H Q q => q.2 _ H (Same.refl H) (.inl ⟨_, rfl, rfl⟩)
theorem b_bl {b : Bool} : PE X (.Constant (.bool b) m p) tBd := pe_bl.imp fun σ H Q q => q.2 _ H (Same.refl H) (.inl ⟨_, rfl, rfl⟩)
theorem b_var (h : PE X e (tVar 1)) : PE X e tBd := h.imp fun σ H Q q => by
 obtain ⟨⟨l, xs, h1, h2⟩, q⟩ := q
 exact ⟨_, h1, q _ H (Same.refl H) (.inl ⟨"list", by unfold tyName; simp only [h2], rfl⟩)⟩
theorem b_str {x : Str} (h : badB x = true) : PE X (.Constant (.str x) m p) tBd := pe_str.imp fun σ H Q q => q.2 _ H (Same.refl H) (bad_str h)
theorem b_rep {k : Nat} : PE X (.BinOp (.BinOp (.Constant (.str "clerk\n") m p) .Mult (.Constant (.int 4) m2 q) r) .Add (.Constant (.str "clerk") k r2) r3) tBd :=
 (pe_op op_add_str (pe_op op_mulS pe_str pe_int) pe_str).imp fun σ H Q z => ⟨_, _, rfl, rfl, by decide +kernel, by decide, by decide, _, _, rfl, rfl, by decide +kernel, z.2 _ H (Same.refl H) (bad_str (by decide +kernel))⟩
end
theorem scLaw : FnScope ["_law_script", "_law_lines_here", "_law_cell", "_law_bad", "_law_got"] ["_law_script"] (defScope sLaw) := ⟨rfl, rfl, rfl, by decide +kernel, rfl, by decide +kernel, by decide +kernel⟩
abbrev lS (i : Nat) : Stmt := (defBody sLaw).getD i (.Pass ⟨0, 0, 0, 0⟩)
def valIn : Stmt → Expr
 | .Assign _ e _ => e
 | _ => .Constant .none 0 ⟨0, 0, 0, 0⟩
@[irreducible] def eBad : Expr := valIn (lS 3)
theorem bodyLaw : ∃ p1 p2, defBody sLaw = [lS 0, lS 1, lS 2, .Assign [.Name "_law_bad" p1] eBad p2, lS 4, lS 5, lS 6, lS 7] := by
 unfold eBad
 exact ⟨_, _, rfl⟩
theorem sw_Bad {x : Str} {p : Pos} {n : Nat} {env : Env} : swapsWith eBad (some (.Name x p)) n env = pure false := by unfold eBad; rfl
section
variable {X : Cx}
theorem pe_Bad (v1 : ∀ p, PE X (.Name "_law_lines_here" p) (tVar 1)) : PE X eBad (tBdL 10) := by
 unfold eBad
 refine @bdl X _ 10 _ (@bda_cons X _ _ 9 ?h1 rfl (@bda_cons X _ _ 8 ?h2 rfl (@bda_cons X _ _ 7 ?h3 rfl (@bda_cons X _ _ 6 ?h4 rfl (@bda_cons X _ _ 5 ?h5 rfl (@bda_cons X _ _ 4 ?h6 rfl (@bda_cons X _ _ 3 ?h7 rfl (@bda_cons X _ _ 2 ?h8 rfl (@bda_cons X _ _ 1 ?h9 rfl (@bda_cons X _ _ 0 ?h10 rfl bda_nil)))))))))) (by decide)
 case h1 => exact b_non
 case h2 => exact b_int
 case h3 => exact b_bl
 case h4 => exact b_var (v1 _)
 case h5 => exact b_str (by decide +kernel)
 case h6 => exact b_str (by decide +kernel)
 case h7 => exact b_rep
 case h8 => exact b_str (by decide +kernel)
 case h9 => exact b_str (by decide +kernel)
 case h10 => exact b_str (by decide +kernel)
end
theorem rowsOk_of {L : List Str} (h : ∀ r ∈ L, RowP r) (hl : L.length ≤ 60) : RowsOk L := ⟨by omega, fun r hr => ⟨(h r hr).1, (h r hr).2.2⟩⟩
theorem joinOk_of {L : List Str} (h : ∀ r ∈ L, RowP r) (hl : L.length ≤ 60) : JoinOk (one 10) L = true := join_ok (B := 900) (fun r hr => (h r hr).2.2) (by omega)
theorem join_len {L : List Str} (h : ∀ r ∈ L, RowP r) (hl : L.length ≤ 60) : (Txt.join (one 10) L).length ≤ 1000000 := by
 have h1 := StrLaws.join_length_le (one 10) L
 have e : Txt.join (one 10) L = Str.join (one 10) L := StrLaws.glued_eq_join _ _
 rw [← e] at h1
 have h2 := sum_le (B := 900) (l := L.map (·.length)) fun x hx => by
  obtain ⟨r, hr, rfl⟩ := List.mem_map.mp hx
  exact (h r hr).2.2
 rw [List.length_map] at h2
 have h4 : (one 10).length = 1 := rfl
 rw [h4] at h1
 have h5 : L.length * 900 ≤ 60 * 900 := Nat.mul_le_mul_right 900 hl
 omega
theorem bad_rows {H : Hp} {L : List Str} (h : ∀ r ∈ L, RowP r) (hl : L.length ≤ 60) (hg : lgood L = false) : BadText H (.str (Txt.join (one 10) L)) := by
 cases L with
 | nil => exact bad_str (by decide +kernel)
 | cons r L =>
  have e : Txt.split (Txt.join (one 10) (r :: L)) (one 10) = r :: L := split_join (by simp) fun x hx => (h x hx).2.1
  refine .inr ⟨_, rfl, join_len h hl, ?_, ?_⟩
  ·rw [e]; exact rowsOk_of h hl
  ·rw [e]; exact lgood_no (by omega) hg
section
variable {P : Program} {w : World} {K : W.Frag} {mg : Str → Option Value} {base : Heap}
def spLaw (K : W.Frag) : Sp := fun vs H Q _ => ∃ (a : Addr) (ns : List Int), vs = [.ref a] ∧ SqL K H a (ns.map V.int) ∧ ns.length ≤ 63 ∧ ∀ H', Q (.bl true) H'
theorem ok_law0 {f fC fN fT fR fX fW fO fG : Addr} {fd fdC fdN fdT fdR fdX fdW fdO fdG : FuncData} (F : Fun K "law" "law" sLaw f fd) (B : Bl mg)
  (GC : FnOk P w K mg base CX0 1 fC fdC ["_law_script", "_law_k"] (spCell K)) (kC : W.keepIn K (.ref fC) = true) (bC : Binds K fdC ["_law_script", "_law_k"] []) (mC : mg "_law_cell_at" = some (.ref fC))
  (GN : FnOk P w K mg base CX0 2 fN fdN ["_law_script"] (spLines K)) (kN : W.keepIn K (.ref fN) = true) (bN : Binds K fdN ["_law_script"] []) (mN : mg "_law_lines" = some (.ref fN))
  (GT : FnOk P w K mg base CX0 2 fT fdT ["program"] spText) (kT : W.keepIn K (.ref fT) = true) (bT : Binds K fdT ["program"] []) (mT : mg "program_text" = some (.ref fT))
  (GR : FnOk P w K mg base CX0 7 fR fdR ["text"] spRead) (kR : W.keepIn K (.ref fR) = true) (bR : Binds K fdR ["text"] []) (mR : mg "read_program" = some (.ref fR))
  (GX : FnOk P w K mg base CX0 8 fX fdX ["_law_thing"] spRefd) (kX : W.keepIn K (.ref fX) = true) (bX : Binds K fdX ["_law_thing"] []) (mX : mg "_law_refused" = some (.ref fX))
  (GW : FnOk P w K mg base CX0 1 fW fdW ["_law_lines_here", "_law_cell"] spByR) (kW : W.keepIn K (.ref fW) = true) (bW : Binds K fdW ["_law_lines_here", "_law_cell"] []) (mW : mg "_law_by_word" = some (.ref fW))
  (GO : FnOk P w K mg base CX0 1 fO fdO ["_law_lines_here", "_law_cell"] spByR) (kO : W.keepIn K (.ref fO) = true) (bO : Binds K fdO ["_law_lines_here", "_law_cell"] []) (mO : mg "_law_by_row" = some (.ref fO))
  (GG : FnOk P w K mg base CX0 3 fG fdG ["_law_lines_here"] spGood) (kG : W.keepIn K (.ref fG) = true) (bG : Binds K fdG ["_law_lines_here"] []) (mG : mg "_law_good" = some (.ref fG)) :
  FnOk P w K mg base CX0 9 f fd ["_law_script"] (spLaw K) := by
 refine F.ok scLaw (fun vs H Q E h => ?_) (fun cdv A outer s H vs Q E hr h => ?_)
 ·obtain ⟨a, ns, rfl, _⟩ := h
  rfl
 ·obtain ⟨a, ns, rfl, hS, _, k⟩ := h
  have hr1 := hr.mono (show 1 ≤ 8 by decide)
  have hr2 := hr.mono (show 2 ≤ 8 by decide)
  have hr3 := hr.mono (show 3 ≤ 8 by decide)
  have hr7 := hr.mono (show 7 ≤ 8 by decide)
  obtain ⟨p1, p2, eb⟩ := bodyLaw
  rw [eb]
  refine ⟨_, pss_cons (ps_set (i := 1) scLaw.nd rfl (Or.inl rfl) (pe_call GN hr2 rfl mN kN bN .nil pass0 (pa_cons (pv 0) pa_nil)))
   (pss_cons (ps_if (pt_cmpR op_ne (pe_call GT hr2 rfl mT kT bT .nil pass0 (pa_cons (pe_call GR hr7 rfl mR kR bR .nil pass0 (pa_cons (pe_bm PySem.F.plainAttrs_str PySem.F.slot_str_join PySem.F.type_str_join mt_join pe_str (pa_cons (pv 1) pa_nil)) pa_nil)) pa_nil)) (pe_bm PySem.F.plainAttrs_str PySem.F.slot_str_join PySem.F.type_str_join mt_join pe_str (pa_cons (pv 1) pa_nil)) (nomark _)) (pss_one (ps_ret pe_bl)) pss_nil)
   (pss_cons (ps_set (i := 2) scLaw.nd rfl (Or.inl rfl) (pe_call GC hr1 rfl mC kC bC .nil pass0 (pa_cons (pv 0) (pa_cons pe_int pa_nil))))
   (pss_cons (ps_set (i := 3) scLaw.nd rfl (Or.inl rfl) (pe_Bad (fun _ => pv 1)) sw_Bad)
   (pss_cons (ps_if (pt_not (pt_val (pe_call GX hr rfl mX kX bX .nil pass0 (pa_cons (pe_ix ix_list (pv 3) (pe_op op_mod (pe_call GC hr1 rfl mC kC bC .nil pass0 (pa_cons (pv 0) (pa_cons pe_int pa_nil))) pe_int) (fun _ _ => rfl)) pa_nil)))) (pss_one (ps_ret pe_bl)) pss_nil)
   (pss_cons (ps_set (i := 4) scLaw.nd rfl (Or.inl rfl) (pe_ix ix_list (pe_lst (pa_cons (pe_call GW hr1 rfl mW kW bW .nil pass0 (pa_cons (pv 1) (pa_cons (pe_op op_fdiv (pv 2) pe_int) pa_nil))) (pa_cons (pe_call GO hr1 rfl mO kO bO .nil pass0 (pa_cons (pv 1) (pa_cons (pe_op op_fdiv (pv 2) pe_int) pa_nil))) pa_nil))) (pe_callTy call_int1 rfl B.int boot_int (pa_cons (pe_cmpR op_eq (pe_op op_mod (pv 2) pe_int) pe_int (nomark _)) pa_nil)) (fun _ _ => rfl)))
   (pss_cons (ps_if (pt_not (pt_val (pe_call GG hr3 rfl mG kG bG .nil pass0 (pa_cons (pv 4) pa_nil)))) (pss_one (ps_ret (pe_call GX hr rfl mX kX bX .nil pass0 (pa_cons (pe_bm PySem.F.plainAttrs_str PySem.F.slot_str_join PySem.F.type_str_join mt_join pe_str (pa_cons (pv 4) pa_nil)) pa_nil)))) pss_nil)
   (pss_one (ps_ret (pe_cmpR op_eq (pe_call GT hr2 rfl mT kT bT .nil pass0 (pa_cons (pe_call GR hr7 rfl mR kR bR .nil pass0 (pa_cons (pe_bm PySem.F.plainAttrs_str PySem.F.slot_str_join PySem.F.type_str_join mt_join pe_str (pa_cons (pv 4) pa_nil)) pa_nil)) pa_nil)) (pe_bm PySem.F.plainAttrs_str PySem.F.slot_str_join PySem.F.type_str_join mt_join pe_str (pa_cons (pv 4) pa_nil)) (nomark _)))))))))), ?_⟩
  refine ⟨_, rfl, a, ns, rfl, hS, fun l ps H1 s1 hl hg h27 => ?_⟩
  refine ⟨rfl, _, rfl, _, l, rows ps, rfl, rfl, SqL.of hl, by first | exact text_join hg | (rw [nl10]; exact text_join hg), ?_⟩
  try rw [nl10]
  refine ⟨ps, rfl, hg, fun v H2 s2 hv => ⟨v, ps, rfl, hv, hg, fun H3 s3 => ?_⟩⟩
  have s13 := s2.trans s3
  refine ⟨rfl, _, rfl, _, l, rows ps, rfl, rfl, SqL.of (s13 _ _ hl), by first | exact text_join hg | (rw [nl10]; exact text_join hg), ?_⟩
  try rw [nl10]
  refine ⟨rfl, _, rfl, iteNS rfl ?_⟩
  have sA := s1.trans s13
  have hl3 := s13 _ _ hl
  generalize H3 = H4 at sA hl3
  refine ⟨_, rfl, a, ns, _, rfl, sA.seq hS, by decide, ?_⟩
  generalize cellM ns 5 = c
  refine ⟨⟨l, _, rfl, hl3⟩, fun bl_ bvs H5 bn s5 hbl hbad => ?_⟩
  obtain ⟨bv, hbv, hbm⟩ := at_mem (xs := bvs) (d := cellM ns 4) (n := 10) bn (by decide)
  refine ⟨_, rfl, _, rfl, a, ns, _, rfl, (sA.trans s5).seq hS, by decide, _, _, rfl, rfl, (by show (0 : Int) < 10; decide), bl_, _, _, bv, rfl, rfl, SqL.of hbl, hbv, bv, rfl, hbad bv hbm, fun H6 s6 => ⟨_, rfl, iteF ?_⟩⟩
  have sB := (sA.trans s5).trans s6
  have hl6 := (s5.trans s6) _ _ hl3
  refine ⟨_, rfl, _, rfl, _, _, rfl, rfl, ⟨by decide, by decide⟩, l, ps, _, rfl, hl6, hg, h27, fun l1 L1 H7 s7 h7 r7 n7 => ?_⟩
  have hl7 := s7 _ _ hl6
  refine ⟨_, rfl, _, rfl, _, _, rfl, rfl, ⟨by decide, by decide⟩, l, ps, _, rfl, hl7, hg, h27, fun l2 L2 H8 s8 h8 r8 n8 => ?_⟩
  refine ⟨by show 2 ≤ sizeLine; decide, fun p9 m9 => ?_⟩
  have s9 := same_new (o := .lst [.ref l1, .ref l2]) (Same.refl H8) m9
  obtain ⟨x, hx, lg, L, rfl, hLg, hLr, hLn⟩ : ∃ x, atI [V.ref l1, V.ref l2] (if decide (V.int (c % 3) = V.int 2) = true then 1 else 0) = some x ∧ ∃ lg, ∃ L : List Str, x = V.ref lg ∧ upd H8 p9 (.lst [.ref l1, .ref l2]) lg = some (.lst (L.map V.str)) ∧ (∀ r ∈ L, RowP r) ∧ L.length ≤ 60 := by
   by_cases e : V.int (c % 3) = V.int 2
   ·rw [decide_eq_true e, if_pos rfl]
    exact ⟨.ref l2, atI_nat (j := 1) rfl, l2, L2, rfl, s9 _ _ h8, r8, n8⟩
   ·rw [decide_eq_false e, if_neg Bool.false_ne_true]
    exact ⟨.ref l1, atI_nat (j := 0) rfl, l1, L1, rfl, s9 _ _ (s8 _ _ h7), r7, n7⟩
  refine ⟨_, rfl, _, _, rfl, rfl, (by show (0 : Int) < 3; decide), rfl, .inr ⟨_, rfl, p9, _, _, .ref lg, rfl, rfl, SqL.of upd_same, hx, ?_⟩⟩
  generalize upd H8 p9 (.lst [.ref l1, .ref l2]) = H10 at hLg
  refine ⟨_, rfl, lg, L, rfl, hLg, rowsOk_of hLr hLn, fun H11 s11 => ⟨_, rfl, ?_⟩⟩
  have hLg11 := s11 _ _ hLg
  cases hgd : lgood L with
  | false =>
   refine iteT ⟨rfl, _, rfl, _, lg, L, rfl, rfl, SqL.of hLg11, by first | exact joinOk_of hLr hLn | (rw [nl10]; exact joinOk_of hLr hLn), ?_⟩
   try rw [nl10]
   exact ⟨_, rfl, bad_rows hLr hLn hgd, fun H12 _ => k H12⟩
  | true =>
   obtain ⟨ps2, hg2, e2⟩ := lgood_good (by omega) (fun r hr => (hLr r hr).1) hgd
   subst e2
   refine iteF ⟨rfl, _, rfl, _, lg, rows ps2, rfl, rfl, SqL.of hLg11, by first | exact text_join hg2 | (rw [nl10]; exact text_join hg2), ?_⟩
   try rw [nl10]
   refine ⟨ps2, rfl, hg2, fun v H12 s12 hv => ⟨v, ps2, rfl, hv, hg2, fun H13 s13' => ?_⟩⟩
   refine ⟨rfl, _, rfl, _, lg, rows ps2, rfl, rfl, SqL.of ((s12.trans s13') _ _ hLg11), by first | exact text_join hg2 | (rw [nl10]; exact text_join hg2), ?_⟩
   try rw [nl10]
   refine ⟨rfl, ?_⟩
   have er : decide (V.str (textS ps2) = V.str (Txt.join (one 10) (rows ps2))) = true := decide_eq_true rfl
   rw [er]
   exact k _
end
end TL
namespace TL
open PySem PySem.Spec PyProof.Rows PySem.SeqAt L2 L3
theorem tup_lit {K : W.Frag} {H : Hp} {a : Addr} {d : Option Addr} {its : Array Value} {n : Nat} {sl : Array (Option Value)} {xs : List V} {us : List Value} (h : K.lookup a = some ⟨.type "tuple", d, .seq its n, sl⟩) (e : its.toList = us) (hz : us.length ≤ sizeLine) (r : Vals xs us) : SqT K H a xs :=
 .inr ⟨_, its, n, h, rfl, rfl, by rw [← Array.length_toList, e]; exact hz, by rw [e]; exact r⟩
theorem lenL1 {us : List Value} (h : us.length = 1) : ∃ a, us = [a] := List.length_eq_one_iff.mp h
theorem lenL2 {us : List Value} (h : us.length = 2) : ∃ a b, us = [a, b] := by
 match us, h with
 | [a, b], _ => exact ⟨a, b, rfl⟩
theorem lenL3 {us : List Value} (h : us.length = 3) : ∃ a b c, us = [a, b, c] := by
 match us, h with
 | [a, b, c], _ => exact ⟨a, b, c, rfl⟩
theorem lenL5 {us : List Value} (h : us.length = 5) : ∃ a b c d e, us = [a, b, c, d, e] := by
 match us, h with
 | [a, b, c, d, e], _ => exact ⟨a, b, c, d, e, rfl⟩
theorem all_mk {l : W.OpenLaw} {w : World} {K : W.Frag} {h : Heap} {mg : Str → Option Value} {fa xEr xNo xNC xNP xNT xNL cStep cPut cAdd cSet cLook cSwap cSkip cClear fW fB fS fO fI fPut fAdd fSet fLook fSwap fSkip fNPI fHC fFI fLO fRO fPT fIN fNO fTO fPO fRP fCA fMI fLS fLI fBW fBR fIS fGD fRF fLaw : Addr} (X : K.In h) (G : h.Ns mainGlobals mg) (hfa : mg "law" = some (.ref fa))
  {odW odB odS odO odI odPut odAdd odSet odLook odSwap odSkip odNPI odHC odFI odLO odRO odPT odIN odNO odTO odPO odRP odCA odMI odLS odLI odBW odBR odIS odGD odRF odLaw anW anB anS anO anI anPut anAdd anSet anLook anSwap anSkip anNPI anHC anFI anLO anRO anPT anIN anNO anTO anPO anRP anCA anMI anLS anLI anBW anBR anIS anGD anRF anLaw : Option Addr} {slW slB slS slO slI slPut slAdd slSet slLook slSwap slSkip slNPI slHC slFI slLO slRO slPT slIN slNO slTO slPO slRP slCA slMI slLS slLI slBW slBR slIS slGD slRF slLaw : Array (Option Value)} {ocW ocB ocS ocO ocI ocPut ocAdd ocSet ocLook ocSwap ocSkip ocNPI ocHC ocFI ocLO ocRO ocPT ocIN ocNO ocTO ocPO ocRP ocCA ocMI ocLS ocLI ocBW ocBR ocIS ocGD ocRF ocLaw kVW kVB kVS kVO kVI kVPut kVAdd kVSet kVLook kVSwap kVSkip kVNPI kVHC kVFI kVLO kVRO kVPT kVIN kVNO kVTO kVPO kVRP kVCA kVMI kVLS kVLI kVBW kVBR kVIS kVGD kVRF kVLaw dcW dcB dcS dcO dcI dcPut dcAdd dcSet dcLook dcSwap dcSkip dcNPI dcHC dcFI dcLO dcRO dcPT dcIN dcNO dcTO dcPO dcRP dcCA dcMI dcLS dcLI dcBW dcBR dcIS dcGD dcRF dcLaw pmW pmB pmS pmO pmI pmPut pmAdd pmSet pmLook pmSwap pmSkip pmNPI pmHC pmFI pmLO pmRO pmPT pmIN pmNO pmTO pmPO pmRP pmCA pmMI pmLS pmLI pmBW pmBR pmIS pmGD pmRF pmLaw ctW ctB ctS ctO ctI ctPut ctAdd ctSet ctLook ctSwap ctSkip ctNPI ctHC ctFI ctLO ctRO ctPT ctIN ctNO ctTO ctPO ctRP ctCA ctMI ctLS ctLI ctBW ctBR ctIS ctGD ctRF ctLaw cdW cdB cdS cdO cdI cdPut cdAdd cdSet cdLook cdSwap cdSkip cdNPI cdHC cdFI cdLO cdRO cdPT cdIN cdNO cdTO cdPO cdRP cdCA cdMI cdLS cdLI cdBW cdBR cdIS cdGD cdRF cdLaw : Value} {t_TOP t_NAMES t_REGISTERS t_LONGEST t_CLERKS t_MOST_FIGURES t_HEAD t_FIGURES : Tok}
  (xa_Er : W.nsIn K mainGlobals "TrayError" = some (some (.ref xEr)))
  (xa_No : W.nsIn K mainGlobals "NoStep" = some (some (.ref xNo)))
  (xa_NC : W.nsIn K mainGlobals "NoClerks" = some (some (.ref xNC)))
  (xa_NP : W.nsIn K mainGlobals "NoProgram" = some (some (.ref xNP)))
  (xa_NT : W.nsIn K mainGlobals "NoText" = some (some (.ref xNT)))
  (xa_NL : W.nsIn K mainGlobals "NoLine" = some (some (.ref xNL)))
  (aCStep : W.nsIn K mainGlobals "Step" = some (some (.ref cStep)))
  (aCPut : W.nsIn K mainGlobals "Put" = some (some (.ref cPut)))
  (aCAdd : W.nsIn K mainGlobals "Add" = some (some (.ref cAdd)))
  (aCSet : W.nsIn K mainGlobals "Set" = some (some (.ref cSet)))
  (aCLook : W.nsIn K mainGlobals "Look" = some (some (.ref cLook)))
  (aCSwap : W.nsIn K mainGlobals "Swap" = some (some (.ref cSwap)))
  (aCSkip : W.nsIn K mainGlobals "Skip" = some (some (.ref cSkip)))
  (aCClear : W.nsIn K mainGlobals "Clear" = some (some (.ref cClear)))
  (aW : W.nsIn K mainGlobals "is_whole" = some (some (.ref fW)))
  (lW : K.lookup fW = some ⟨ocW, odW, .func (W.fnOf "is_whole" "is_whole" (defArgs sWhole) (defBody sWhole) (defScope sWhole) .none kVW dcW pmW anW cdW ctW), slW⟩)
  (c_W : W.codeIn K cdW "is_whole" = true)
  (kW : W.keepIn K (.ref fW) = true)
  (aB : W.nsIn K mainGlobals "bounds_of" = some (some (.ref fB)))
  (lB : K.lookup fB = some ⟨ocB, odB, .func (W.fnOf "bounds_of" "bounds_of" (defArgs sBounds) (defBody sBounds) (defScope sBounds) .none kVB dcB pmB anB cdB ctB), slB⟩)
  (c_B : W.codeIn K cdB "bounds_of" = true)
  (kB : W.keepIn K (.ref fB) = true)
  (aS : W.nsIn K mainGlobals "is_step" = some (some (.ref fS)))
  (lS : K.lookup fS = some ⟨ocS, odS, .func (W.fnOf "is_step" "is_step" (defArgs sIsStep) (defBody sIsStep) (defScope sIsStep) .none kVS dcS pmS anS cdS ctS), slS⟩)
  (c_S : W.codeIn K cdS "is_step" = true)
  (kS : W.keepIn K (.ref fS) = true)
  (aO : W.nsIn K mainGlobals "step_of" = some (some (.ref fO)))
  (lO : K.lookup fO = some ⟨ocO, odO, .func (W.fnOf "step_of" "step_of" (defArgs sStepOf) (defBody sStepOf) (defScope sStepOf) .none kVO dcO pmO anO cdO ctO), slO⟩)
  (c_O : W.codeIn K cdO "step_of" = true)
  (kO : W.keepIn K (.ref fO) = true)
  (aI : W.findIn K (.ref cStep) "__init__" = some (some (.ref fI)))
  (lI : K.lookup fI = some ⟨ocI, odI, .func (W.fnOf "__init__" "Step.__init__" (defArgs sInit) (defBody sInit) (defScope sInit) .none kVI dcI pmI anI cdI ctI), slI⟩)
  (c_I : W.codeIn K cdI "Step.__init__" = true)
  (kI : W.keepIn K (.ref fI) = true)
  (iI : W.isFn K (.ref fI) = true)
  (aPut : W.findIn K (.ref cPut) "__init__" = some (some (.ref fPut)))
  (lPut : K.lookup fPut = some ⟨ocPut, odPut, .func (W.fnOf "__init__" "Put.__init__" (defArgs sPutI) (defBody sPutI) (defScope sPutI) .none kVPut dcPut pmPut anPut cdPut ctPut), slPut⟩)
  (c_Put : W.codeIn K cdPut "Put.__init__" = true)
  (kPut : W.keepIn K (.ref fPut) = true)
  (iPut : W.isFn K (.ref fPut) = true)
  (aAdd : W.findIn K (.ref cAdd) "__init__" = some (some (.ref fAdd)))
  (lAdd : K.lookup fAdd = some ⟨ocAdd, odAdd, .func (W.fnOf "__init__" "Add.__init__" (defArgs sAddI) (defBody sAddI) (defScope sAddI) .none kVAdd dcAdd pmAdd anAdd cdAdd ctAdd), slAdd⟩)
  (c_Add : W.codeIn K cdAdd "Add.__init__" = true)
  (kAdd : W.keepIn K (.ref fAdd) = true)
  (iAdd : W.isFn K (.ref fAdd) = true)
  (aSet : W.findIn K (.ref cSet) "__init__" = some (some (.ref fSet)))
  (lSet : K.lookup fSet = some ⟨ocSet, odSet, .func (W.fnOf "__init__" "Set.__init__" (defArgs sSetI) (defBody sSetI) (defScope sSetI) .none kVSet dcSet pmSet anSet cdSet ctSet), slSet⟩)
  (c_Set : W.codeIn K cdSet "Set.__init__" = true)
  (kSet : W.keepIn K (.ref fSet) = true)
  (iSet : W.isFn K (.ref fSet) = true)
  (aLook : W.findIn K (.ref cLook) "__init__" = some (some (.ref fLook)))
  (lLook : K.lookup fLook = some ⟨ocLook, odLook, .func (W.fnOf "__init__" "Look.__init__" (defArgs sLookI) (defBody sLookI) (defScope sLookI) .none kVLook dcLook pmLook anLook cdLook ctLook), slLook⟩)
  (c_Look : W.codeIn K cdLook "Look.__init__" = true)
  (kLook : W.keepIn K (.ref fLook) = true)
  (iLook : W.isFn K (.ref fLook) = true)
  (aSwap : W.findIn K (.ref cSwap) "__init__" = some (some (.ref fSwap)))
  (lSwap : K.lookup fSwap = some ⟨ocSwap, odSwap, .func (W.fnOf "__init__" "Swap.__init__" (defArgs sSwapI) (defBody sSwapI) (defScope sSwapI) .none kVSwap dcSwap pmSwap anSwap cdSwap ctSwap), slSwap⟩)
  (c_Swap : W.codeIn K cdSwap "Swap.__init__" = true)
  (kSwap : W.keepIn K (.ref fSwap) = true)
  (iSwap : W.isFn K (.ref fSwap) = true)
  (aSkip : W.findIn K (.ref cSkip) "__init__" = some (some (.ref fSkip)))
  (lSkip : K.lookup fSkip = some ⟨ocSkip, odSkip, .func (W.fnOf "__init__" "Skip.__init__" (defArgs sSkipI) (defBody sSkipI) (defScope sSkipI) .none kVSkip dcSkip pmSkip anSkip cdSkip ctSkip), slSkip⟩)
  (c_Skip : W.codeIn K cdSkip "Skip.__init__" = true)
  (kSkip : W.keepIn K (.ref fSkip) = true)
  (iSkip : W.isFn K (.ref fSkip) = true)
  (aNPI : W.findIn K (.ref xNP) "__init__" = some (some (.ref fNPI)))
  (lNPI : K.lookup fNPI = some ⟨ocNPI, odNPI, .func (W.fnOf "__init__" "NoProgram.__init__" (defArgs sNPI) (defBody sNPI) (defScope sNPI) .none kVNPI dcNPI pmNPI anNPI cdNPI ctNPI), slNPI⟩)
  (c_NPI : W.codeIn K cdNPI "NoProgram.__init__" = true)
  (kNPI : W.keepIn K (.ref fNPI) = true)
  (iNPI : W.isFn K (.ref fNPI) = true)
  (aHC : W.nsIn K mainGlobals "has_clerks" = some (some (.ref fHC)))
  (lHC : K.lookup fHC = some ⟨ocHC, odHC, .func (W.fnOf "has_clerks" "has_clerks" (defArgs sHas) (defBody sHas) (defScope sHas) .none kVHC dcHC pmHC anHC cdHC ctHC), slHC⟩)
  (c_HC : W.codeIn K cdHC "has_clerks" = true)
  (kHC : W.keepIn K (.ref fHC) = true)
  (aFI : W.nsIn K mainGlobals "fits" = some (some (.ref fFI)))
  (lFI : K.lookup fFI = some ⟨ocFI, odFI, .func (W.fnOf "fits" "fits" (defArgs sFits) (defBody sFits) (defScope sFits) .none kVFI dcFI pmFI anFI cdFI ctFI), slFI⟩)
  (c_FI : W.codeIn K cdFI "fits" = true)
  (kFI : W.keepIn K (.ref fFI) = true)
  (aLO : W.nsIn K mainGlobals "look_over" = some (some (.ref fLO)))
  (lLO : K.lookup fLO = some ⟨ocLO, odLO, .func (W.fnOf "look_over" "look_over" (defArgs sLookOver) (defBody sLookOver) (defScope sLookOver) .none kVLO dcLO pmLO anLO cdLO ctLO), slLO⟩)
  (c_LO : W.codeIn K cdLO "look_over" = true)
  (kLO : W.keepIn K (.ref fLO) = true)
  (aRO : W.nsIn K mainGlobals "row_of" = some (some (.ref fRO)))
  (lRO : K.lookup fRO = some ⟨ocRO, odRO, .func (W.fnOf "row_of" "row_of" (defArgs sRowOf) (defBody sRowOf) (defScope sRowOf) .none kVRO dcRO pmRO anRO cdRO ctRO), slRO⟩)
  (c_RO : W.codeIn K cdRO "row_of" = true)
  (kRO : W.keepIn K (.ref fRO) = true)
  (aPT : W.nsIn K mainGlobals "program_text" = some (some (.ref fPT)))
  (lPT : K.lookup fPT = some ⟨ocPT, odPT, .func (W.fnOf "program_text" "program_text" (defArgs sProgText) (defBody sProgText) (defScope sProgText) .none kVPT dcPT pmPT anPT cdPT ctPT), slPT⟩)
  (c_PT : W.codeIn K cdPT "program_text" = true)
  (kPT : W.keepIn K (.ref fPT) = true)
  (aIN : W.nsIn K mainGlobals "is_number" = some (some (.ref fIN)))
  (lIN : K.lookup fIN = some ⟨ocIN, odIN, .func (W.fnOf "is_number" "is_number" (defArgs sIsNum) (defBody sIsNum) (defScope sIsNum) .none kVIN dcIN pmIN anIN cdIN ctIN), slIN⟩)
  (c_IN : W.codeIn K cdIN "is_number" = true)
  (kIN : W.keepIn K (.ref fIN) = true)
  (aNO : W.nsIn K mainGlobals "number_of" = some (some (.ref fNO)))
  (lNO : K.lookup fNO = some ⟨ocNO, odNO, .func (W.fnOf "number_of" "number_of" (defArgs sNumOf) (defBody sNumOf) (defScope sNumOf) .none kVNO dcNO pmNO anNO cdNO ctNO), slNO⟩)
  (c_NO : W.codeIn K cdNO "number_of" = true)
  (kNO : W.keepIn K (.ref fNO) = true)
  (aTO : W.nsIn K mainGlobals "told_of" = some (some (.ref fTO)))
  (lTO : K.lookup fTO = some ⟨ocTO, odTO, .func (W.fnOf "told_of" "told_of" (defArgs sToldOf) (defBody sToldOf) (defScope sToldOf) .none kVTO dcTO pmTO anTO cdTO ctTO), slTO⟩)
  (c_TO : W.codeIn K cdTO "told_of" = true)
  (kTO : W.keepIn K (.ref fTO) = true)
  (aPO : W.nsIn K mainGlobals "parts_of" = some (some (.ref fPO)))
  (lPO : K.lookup fPO = some ⟨ocPO, odPO, .func (W.fnOf "parts_of" "parts_of" (defArgs sPartsOf) (defBody sPartsOf) (defScope sPartsOf) .none kVPO dcPO pmPO anPO cdPO ctPO), slPO⟩)
  (c_PO : W.codeIn K cdPO "parts_of" = true)
  (kPO : W.keepIn K (.ref fPO) = true)
  (aRP : W.nsIn K mainGlobals "read_program" = some (some (.ref fRP)))
  (lRP : K.lookup fRP = some ⟨ocRP, odRP, .func (W.fnOf "read_program" "read_program" (defArgs sReadP) (defBody sReadP) (defScope sReadP) .none kVRP dcRP pmRP anRP cdRP ctRP), slRP⟩)
  (c_RP : W.codeIn K cdRP "read_program" = true)
  (kRP : W.keepIn K (.ref fRP) = true)
  (aCA : W.nsIn K mainGlobals "_law_cell_at" = some (some (.ref fCA)))
  (lCA : K.lookup fCA = some ⟨ocCA, odCA, .func (W.fnOf "_law_cell_at" "_law_cell_at" (defArgs sCellAt) (defBody sCellAt) (defScope sCellAt) .none kVCA dcCA pmCA anCA cdCA ctCA), slCA⟩)
  (c_CA : W.codeIn K cdCA "_law_cell_at" = true)
  (kCA : W.keepIn K (.ref fCA) = true)
  (aMI : W.nsIn K mainGlobals "_law_mixed" = some (some (.ref fMI)))
  (lMI : K.lookup fMI = some ⟨ocMI, odMI, .func (W.fnOf "_law_mixed" "_law_mixed" (defArgs sMixed) (defBody sMixed) (defScope sMixed) .none kVMI dcMI pmMI anMI cdMI ctMI), slMI⟩)
  (c_MI : W.codeIn K cdMI "_law_mixed" = true)
  (kMI : W.keepIn K (.ref fMI) = true)
  (aLS : W.nsIn K mainGlobals "_law_step" = some (some (.ref fLS)))
  (lLS : K.lookup fLS = some ⟨ocLS, odLS, .func (W.fnOf "_law_step" "_law_step" (defArgs sLStep) (defBody sLStep) (defScope sLStep) .none kVLS dcLS pmLS anLS cdLS ctLS), slLS⟩)
  (c_LS : W.codeIn K cdLS "_law_step" = true)
  (kLS : W.keepIn K (.ref fLS) = true)
  (aLI : W.nsIn K mainGlobals "_law_lines" = some (some (.ref fLI)))
  (lLI : K.lookup fLI = some ⟨ocLI, odLI, .func (W.fnOf "_law_lines" "_law_lines" (defArgs sLines) (defBody sLines) (defScope sLines) .none kVLI dcLI pmLI anLI cdLI ctLI), slLI⟩)
  (c_LI : W.codeIn K cdLI "_law_lines" = true)
  (kLI : W.keepIn K (.ref fLI) = true)
  (aBW : W.nsIn K mainGlobals "_law_by_word" = some (some (.ref fBW)))
  (lBW : K.lookup fBW = some ⟨ocBW, odBW, .func (W.fnOf "_law_by_word" "_law_by_word" (defArgs sByWord) (defBody sByWord) (defScope sByWord) .none kVBW dcBW pmBW anBW cdBW ctBW), slBW⟩)
  (c_BW : W.codeIn K cdBW "_law_by_word" = true)
  (kBW : W.keepIn K (.ref fBW) = true)
  (aBR : W.nsIn K mainGlobals "_law_by_row" = some (some (.ref fBR)))
  (lBR : K.lookup fBR = some ⟨ocBR, odBR, .func (W.fnOf "_law_by_row" "_law_by_row" (defArgs sByRow) (defBody sByRow) (defScope sByRow) .none kVBR dcBR pmBR anBR cdBR ctBR), slBR⟩)
  (c_BR : W.codeIn K cdBR "_law_by_row" = true)
  (kBR : W.keepIn K (.ref fBR) = true)
  (aIS : W.nsIn K mainGlobals "_law_is_step" = some (some (.ref fIS)))
  (lIS : K.lookup fIS = some ⟨ocIS, odIS, .func (W.fnOf "_law_is_step" "_law_is_step" (defArgs sLIs) (defBody sLIs) (defScope sLIs) .none kVIS dcIS pmIS anIS cdIS ctIS), slIS⟩)
  (c_IS : W.codeIn K cdIS "_law_is_step" = true)
  (kIS : W.keepIn K (.ref fIS) = true)
  (aGD : W.nsIn K mainGlobals "_law_good" = some (some (.ref fGD)))
  (lGD : K.lookup fGD = some ⟨ocGD, odGD, .func (W.fnOf "_law_good" "_law_good" (defArgs sGood) (defBody sGood) (defScope sGood) .none kVGD dcGD pmGD anGD cdGD ctGD), slGD⟩)
  (c_GD : W.codeIn K cdGD "_law_good" = true)
  (kGD : W.keepIn K (.ref fGD) = true)
  (aRF : W.nsIn K mainGlobals "_law_refused" = some (some (.ref fRF)))
  (lRF : K.lookup fRF = some ⟨ocRF, odRF, .func (W.fnOf "_law_refused" "_law_refused" (defArgs sRefd) (defBody sRefd) (defScope sRefd) .none kVRF dcRF pmRF anRF cdRF ctRF), slRF⟩)
  (c_RF : W.codeIn K cdRF "_law_refused" = true)
  (kRF : W.keepIn K (.ref fRF) = true)
  (aLaw : W.nsIn K mainGlobals "law" = some (some (.ref fLaw)))
  (lLaw : K.lookup fLaw = some ⟨ocLaw, odLaw, .func (W.fnOf "law" "law" (defArgs sLaw) (defBody sLaw) (defScope sLaw) .none kVLaw dcLaw pmLaw anLaw cdLaw ctLaw), slLaw⟩)
  (c_Law : W.codeIn K cdLaw "law" = true)
  (kLaw : W.keepIn K (.ref fLaw) = true)
  (pgStep : W.plainGet K cStep Str.empty = true)
  (hdStep : W.hasDictIn K cStep = true)
  (poStep : W.plainOver K cStep = true)
  (saStep : W.findIn K (.ref cStep) "__setattr__" = some (some (.builtin "object.__setattr__")))
  (pgPut : W.plainGet K cPut Str.empty = true)
  (hdPut : W.hasDictIn K cPut = true)
  (poPut : W.plainOver K cPut = true)
  (saPut : W.findIn K (.ref cPut) "__setattr__" = some (some (.builtin "object.__setattr__")))
  (mkPut : W.makesIn K cPut = true)
  (kcPut : W.keepIn K (.ref cPut) = true)
  (nPut_parts : W.findIn K (.ref cPut) "parts" = some none)
  (nPut_reg : W.findIn K (.ref cPut) "reg" = some none)
  (nPut_number : W.findIn K (.ref cPut) "number" = some none)
  (pgAdd : W.plainGet K cAdd Str.empty = true)
  (hdAdd : W.hasDictIn K cAdd = true)
  (poAdd : W.plainOver K cAdd = true)
  (saAdd : W.findIn K (.ref cAdd) "__setattr__" = some (some (.builtin "object.__setattr__")))
  (mkAdd : W.makesIn K cAdd = true)
  (kcAdd : W.keepIn K (.ref cAdd) = true)
  (nAdd_parts : W.findIn K (.ref cAdd) "parts" = some none)
  (nAdd_reg : W.findIn K (.ref cAdd) "reg" = some none)
  (nAdd_other : W.findIn K (.ref cAdd) "other" = some none)
  (pgSet : W.plainGet K cSet Str.empty = true)
  (hdSet : W.hasDictIn K cSet = true)
  (poSet : W.plainOver K cSet = true)
  (saSet : W.findIn K (.ref cSet) "__setattr__" = some (some (.builtin "object.__setattr__")))
  (mkSet : W.makesIn K cSet = true)
  (kcSet : W.keepIn K (.ref cSet) = true)
  (nSet_parts : W.findIn K (.ref cSet) "parts" = some none)
  (nSet_name : W.findIn K (.ref cSet) "name" = some none)
  (nSet_reg : W.findIn K (.ref cSet) "reg" = some none)
  (pgLook : W.plainGet K cLook Str.empty = true)
  (hdLook : W.hasDictIn K cLook = true)
  (poLook : W.plainOver K cLook = true)
  (saLook : W.findIn K (.ref cLook) "__setattr__" = some (some (.builtin "object.__setattr__")))
  (mkLook : W.makesIn K cLook = true)
  (kcLook : W.keepIn K (.ref cLook) = true)
  (nLook_parts : W.findIn K (.ref cLook) "parts" = some none)
  (nLook_reg : W.findIn K (.ref cLook) "reg" = some none)
  (nLook_name : W.findIn K (.ref cLook) "name" = some none)
  (pgSwap : W.plainGet K cSwap Str.empty = true)
  (hdSwap : W.hasDictIn K cSwap = true)
  (poSwap : W.plainOver K cSwap = true)
  (saSwap : W.findIn K (.ref cSwap) "__setattr__" = some (some (.builtin "object.__setattr__")))
  (mkSwap : W.makesIn K cSwap = true)
  (kcSwap : W.keepIn K (.ref cSwap) = true)
  (nSwap_parts : W.findIn K (.ref cSwap) "parts" = some none)
  (nSwap_reg : W.findIn K (.ref cSwap) "reg" = some none)
  (nSwap_name : W.findIn K (.ref cSwap) "name" = some none)
  (pgSkip : W.plainGet K cSkip Str.empty = true)
  (hdSkip : W.hasDictIn K cSkip = true)
  (poSkip : W.plainOver K cSkip = true)
  (saSkip : W.findIn K (.ref cSkip) "__setattr__" = some (some (.builtin "object.__setattr__")))
  (mkSkip : W.makesIn K cSkip = true)
  (kcSkip : W.keepIn K (.ref cSkip) = true)
  (nSkip_parts : W.findIn K (.ref cSkip) "parts" = some none)
  (nSkip_reg : W.findIn K (.ref cSkip) "reg" = some none)
  (nSkip_place : W.findIn K (.ref cSkip) "place" = some none)
  (pgClear : W.plainGet K cClear Str.empty = true)
  (hdClear : W.hasDictIn K cClear = true)
  (poClear : W.plainOver K cClear = true)
  (saClear : W.findIn K (.ref cClear) "__setattr__" = some (some (.builtin "object.__setattr__")))
  (mkClear : W.makesIn K cClear = true)
  (kcClear : W.keepIn K (.ref cClear) = true)
  (nClear_parts : W.findIn K (.ref cClear) "parts" = some none)
  (inPut : W.findIn K (.ref cPut) "__init__" = some (some (.ref fPut)))
  (inAdd : W.findIn K (.ref cAdd) "__init__" = some (some (.ref fAdd)))
  (inSet : W.findIn K (.ref cSet) "__init__" = some (some (.ref fSet)))
  (inLook : W.findIn K (.ref cLook) "__init__" = some (some (.ref fLook)))
  (inSwap : W.findIn K (.ref cSwap) "__init__" = some (some (.ref fSwap)))
  (inSkip : W.findIn K (.ref cSkip) "__init__" = some (some (.ref fSkip)))
  (inClear : W.findIn K (.ref cClear) "__init__" = some (some (.ref fI)))
  (spStep : W.specialIn K (.ref cStep) "__getattribute__" = some (some (.builtin "type.__getattribute__")))
  (rdStep : W.readsIn K cStep (.type "type") = true)
  (fcStep___init__ : W.findCls K (.ref cStep) (.type "type") "__init__" = some (.val (.ref fI)))
  (z_isinstance : W.nsIn K mainGlobals "isinstance" = some none)
  (z_int : W.nsIn K mainGlobals "int" = some none)
  (z_bool : W.nsIn K mainGlobals "bool" = some none)
  (z_str : W.nsIn K mainGlobals "str" = some none)
  (z_tuple : W.nsIn K mainGlobals "tuple" = some none)
  (z_len : W.nsIn K mainGlobals "len" = some none)
  (z_all : W.nsIn K mainGlobals "all" = some none)
  (z_zip : W.nsIn K mainGlobals "zip" = some none)
  (z_enumerate : W.nsIn K mainGlobals "enumerate" = some none)
  (z_range : W.nsIn K mainGlobals "range" = some none)
  (z_list : W.nsIn K mainGlobals "list" = some none)
  (z_ValueError : W.nsIn K mainGlobals "ValueError" = some none)
  (v_TOP : W.nsIn K mainGlobals "TOP" = some (some (.int TOPi t_TOP)))
  (v_NAMES : W.nsIn K mainGlobals "NAMES" = some (some (.int 12 t_NAMES)))
  (v_REGISTERS : W.nsIn K mainGlobals "REGISTERS" = some (some (.int 4 t_REGISTERS)))
  (v_LONGEST : W.nsIn K mainGlobals "LONGEST" = some (some (.int 120 t_LONGEST)))
  (v_CLERKS : W.nsIn K mainGlobals "CLERKS" = some (some (.int 4 t_CLERKS)))
  (v_MOST_FIGURES : W.nsIn K mainGlobals "MOST_FIGURES" = some (some (.int 60 t_MOST_FIGURES)))
  (w_HEAD : W.nsIn K mainGlobals "HEAD" = some (some (.str "clerk" t_HEAD)))
  (w_FIGURES : W.nsIn K mainGlobals "FIGURES" = some (some (.str "0123456789" t_FIGURES)))
  (xe_No : W.excIn K xNo bmVE "ValueError.__new__" = true)
  (xk_No : W.keepIn K (.ref xNo) = true)
  (xs_No : W.kitCls K (.ref xNo) (.ref xNo) = some true)
  (xb_No : W.kitCls K (.ref xNo) (.type "BaseException") = some true)
  (xt_No : W.kitOne K (.ref xNo) (.ref xEr) = some true)
  (xv_No : W.kitOne K (.ref xNo) (.type "ValueError") = some true)
  (y_gt : W.specialIn K (.builtin "object.__class__") "__get__" = some (some (.builtin "getset_descriptor.__get__")))
  (y_tk : W.takesIn K (.builtin "object.__class__") = some true)
  (y_ce : W.excIn K xNC bmVE "ValueError.__new__" = true)
  (kc_NC : W.keepIn K (.ref xNC) = true)
  (y_pe : excInI K xNP bmVE "ValueError.__new__" = true)
  (kc_NP : W.keepIn K (.ref xNP) = true)
  (y_ps : W.findIn K (.ref xNP) "__setattr__" = some (some (.builtin "object.__setattr__")))
  (y_pc : (W.clsIn K xNP).any (fun cd => onlyExc cd.mro && cd.hasDict) = true)
  (y_n1 : W.findIn K (.ref xNP) "clerk" = some none)
  (y_n2 : W.findIn K (.ref xNP) "place" = some none)
  (y_gaNP : W.findIn K (.ref xNP) (Str.ofString "__getattribute__") = some (some (.builtin gaBE)))
  (y_gnNP : W.findIn K (.ref xNP) (Str.ofString "__getattr__") = some none)
  (y_bxNP : W.mroIn K xNP (.type "BaseException") = some true)
  (y_clPut : W.findIn K (.ref cPut) "__class__" = some (some (.builtin "object.__class__")))
  (y_mrPut : W.mroIn K cPut (.type "object") = some true)
  (y_onPut : W.kitOne K (.ref cPut) (.ref cSkip) = some false)
  (y_clAdd : W.findIn K (.ref cAdd) "__class__" = some (some (.builtin "object.__class__")))
  (y_mrAdd : W.mroIn K cAdd (.type "object") = some true)
  (y_onAdd : W.kitOne K (.ref cAdd) (.ref cSkip) = some false)
  (y_clSet : W.findIn K (.ref cSet) "__class__" = some (some (.builtin "object.__class__")))
  (y_mrSet : W.mroIn K cSet (.type "object") = some true)
  (y_onSet : W.kitOne K (.ref cSet) (.ref cSkip) = some false)
  (y_clLook : W.findIn K (.ref cLook) "__class__" = some (some (.builtin "object.__class__")))
  (y_mrLook : W.mroIn K cLook (.type "object") = some true)
  (y_onLook : W.kitOne K (.ref cLook) (.ref cSkip) = some false)
  (y_clSwap : W.findIn K (.ref cSwap) "__class__" = some (some (.builtin "object.__class__")))
  (y_mrSwap : W.mroIn K cSwap (.type "object") = some true)
  (y_onSwap : W.kitOne K (.ref cSwap) (.ref cSkip) = some false)
  (y_clSkip : W.findIn K (.ref cSkip) "__class__" = some (some (.builtin "object.__class__")))
  (y_mrSkip : W.mroIn K cSkip (.type "object") = some true)
  (y_onSkip : W.kitOne K (.ref cSkip) (.ref cSkip) = some true)
  (y_clClear : W.findIn K (.ref cClear) "__class__" = some (some (.builtin "object.__class__")))
  (y_mrClear : W.mroIn K cClear (.type "object") = some true)
  (y_onClear : W.kitOne K (.ref cClear) (.ref cSkip) = some false)
  (y_be : W.kitCls K (.ref xEr) (.type "BaseException") = some true)
  (y_te : W.excIn K xNT bmVE "ValueError.__new__" = true)
  (kc_NT : W.keepIn K (.ref xNT) = true)
  (y_nC : xNC ≠ chNT)
  (y_nP : xNP ≠ chNT)
  (y_bC : W.kitCls K (.ref xNC) (.type "BaseException") = some true)
  (y_bP : W.kitCls K (.ref xNP) (.type "BaseException") = some true)
  (y_cc : W.kitCls K (.ref xNC) (.ref xNC) = some true)
  (y_pc2 : W.kitCls K (.ref xNP) (.ref xNC) = some false)
  (y_pp : W.kitCls K (.ref xNP) (.ref xNP) = some true)
  (y_gaNT : W.findIn K (.ref xNT) (Str.ofString "__getattribute__") = some (some (.builtin gaBE)))
  (y_gnNT : W.findIn K (.ref xNT) (Str.ofString "__getattr__") = some none)
  (y_bxNT : W.mroIn K xNT (.type "BaseException") = some true)
  (y_khNT : W.hasDictIn K xNT = true)
  (y_kcNT : W.findIn K (.ref xNT) (Str.ofString "__class__") = some (some (.builtin "object.__class__")))
  (y_kmNT : W.mroIn K xNT (.type "object") = some true)
  (y_keNT : W.kitCls K (.ref xNT) (.ref xEr) = some true)
  (y_vNT : W.kitOne K (.ref xNT) (.type "ValueError") = some true)
  (y_oNTNP : W.kitOne K (.ref xNT) (.ref xNP) = some false)
  (y_oNTNC : W.kitOne K (.ref xNT) (.ref xNC) = some false)
  (y_oNTNo : W.kitOne K (.ref xNT) (.ref xNo) = some false)
  (y_oNTNL : W.kitOne K (.ref xNT) (.ref xNL) = some false)
  (y_oNTNT : W.kitOne K (.ref xNT) (.ref xNT) = some true)
  (y_nt : xNT = chNT)
  : ∃ fd : FuncData, (∀ (s : Shared) (v : Value), BindsTo s fd ⟨[v], []⟩ [("_law_script", v)]) ∧ ∀ base : Heap, K.In base → base.Ns mainGlobals mg → FnOk l.prog w K mg base CX0 9 fa fd ["_law_script"] (spLaw K) := by
 have e := hfa.symm.trans (W.mg_of X G aLaw)
 cases e
 have FW := fun_mk (st := sWhole) lW c_W kW
 have bW := FW.binds (ps := ["thing"]) fun _ _ _ _ _ _ us hl => by obtain ⟨u0, e⟩ := lenL1 hl; subst e; rfl
 have gW := W.mg_of X G aW
 have FB := fun_mk (st := sBounds) lB c_B kB
 have bB := FB.binds (ps := ["word"]) fun _ _ _ _ _ _ us hl => by obtain ⟨u0, e⟩ := lenL1 hl; subst e; rfl
 have gB := W.mg_of X G aB
 have FS := fun_mk (st := sIsStep) lS c_S kS
 have bS := FS.binds (ps := ["told"]) fun _ _ _ _ _ _ us hl => by obtain ⟨u0, e⟩ := lenL1 hl; subst e; rfl
 have gS := W.mg_of X G aS
 have FO := fun_mk (st := sStepOf) lO c_O kO
 have bO := FO.binds (ps := ["told"]) fun _ _ _ _ _ _ us hl => by obtain ⟨u0, e⟩ := lenL1 hl; subst e; rfl
 have gO := W.mg_of X G aO
 have FI := fun_mk (st := sInit) lI c_I kI
 have bI := FI.binds (ps := ["self", "told"]) fun _ _ _ _ _ _ us hl => by obtain ⟨u0, u1, e⟩ := lenL2 hl; subst e; rfl
 have FPut := fun_mk (st := sPutI) lPut c_Put kPut
 have bPut := FPut.binds (ps := ["self", "told"]) fun _ _ _ _ _ _ us hl => by obtain ⟨u0, u1, e⟩ := lenL2 hl; subst e; rfl
 have FAdd := fun_mk (st := sAddI) lAdd c_Add kAdd
 have bAdd := FAdd.binds (ps := ["self", "told"]) fun _ _ _ _ _ _ us hl => by obtain ⟨u0, u1, e⟩ := lenL2 hl; subst e; rfl
 have FSet := fun_mk (st := sSetI) lSet c_Set kSet
 have bSet := FSet.binds (ps := ["self", "told"]) fun _ _ _ _ _ _ us hl => by obtain ⟨u0, u1, e⟩ := lenL2 hl; subst e; rfl
 have FLook := fun_mk (st := sLookI) lLook c_Look kLook
 have bLook := FLook.binds (ps := ["self", "told"]) fun _ _ _ _ _ _ us hl => by obtain ⟨u0, u1, e⟩ := lenL2 hl; subst e; rfl
 have FSwap := fun_mk (st := sSwapI) lSwap c_Swap kSwap
 have bSwap := FSwap.binds (ps := ["self", "told"]) fun _ _ _ _ _ _ us hl => by obtain ⟨u0, u1, e⟩ := lenL2 hl; subst e; rfl
 have FSkip := fun_mk (st := sSkipI) lSkip c_Skip kSkip
 have bSkip := FSkip.binds (ps := ["self", "told"]) fun _ _ _ _ _ _ us hl => by obtain ⟨u0, u1, e⟩ := lenL2 hl; subst e; rfl
 have FNPI := fun_mk (st := sNPI) lNPI c_NPI kNPI
 have bNPI := FNPI.binds (ps := ["self", "clerk", "place"]) fun _ _ _ _ _ _ us hl => by obtain ⟨u0, u1, u2, e⟩ := lenL3 hl; subst e; rfl
 have FHC := fun_mk (st := sHas) lHC c_HC kHC
 have bHC := FHC.binds (ps := ["program"]) fun _ _ _ _ _ _ us hl => by obtain ⟨u0, e⟩ := lenL1 hl; subst e; rfl
 have gHC := W.mg_of X G aHC
 have FFI := fun_mk (st := sFits) lFI c_FI kFI
 have bFI := FFI.binds (ps := ["told", "place", "length"]) fun _ _ _ _ _ _ us hl => by obtain ⟨u0, u1, u2, e⟩ := lenL3 hl; subst e; rfl
 have gFI := W.mg_of X G aFI
 have FLO := fun_mk (st := sLookOver) lLO c_LO kLO
 have bLO := FLO.binds (ps := ["program"]) fun _ _ _ _ _ _ us hl => by obtain ⟨u0, e⟩ := lenL1 hl; subst e; rfl
 have gLO := W.mg_of X G aLO
 have FRO := fun_mk (st := sRowOf) lRO c_RO kRO
 have bRO := FRO.binds (ps := ["told"]) fun _ _ _ _ _ _ us hl => by obtain ⟨u0, e⟩ := lenL1 hl; subst e; rfl
 have gRO := W.mg_of X G aRO
 have FPT := fun_mk (st := sProgText) lPT c_PT kPT
 have bPT := FPT.binds (ps := ["program"]) fun _ _ _ _ _ _ us hl => by obtain ⟨u0, e⟩ := lenL1 hl; subst e; rfl
 have gPT := W.mg_of X G aPT
 have FIN := fun_mk (st := sIsNum) lIN c_IN kIN
 have bIN := FIN.binds (ps := ["word"]) fun _ _ _ _ _ _ us hl => by obtain ⟨u0, e⟩ := lenL1 hl; subst e; rfl
 have gIN := W.mg_of X G aIN
 have FNO := fun_mk (st := sNumOf) lNO c_NO kNO
 have bNO := FNO.binds (ps := ["word"]) fun _ _ _ _ _ _ us hl => by obtain ⟨u0, e⟩ := lenL1 hl; subst e; rfl
 have gNO := W.mg_of X G aNO
 have FTO := fun_mk (st := sToldOf) lTO c_TO kTO
 have bTO := FTO.binds (ps := ["row"]) fun _ _ _ _ _ _ us hl => by obtain ⟨u0, e⟩ := lenL1 hl; subst e; rfl
 have gTO := W.mg_of X G aTO
 have FPO := fun_mk (st := sPartsOf) lPO c_PO kPO
 have bPO := FPO.binds (ps := ["rows"]) fun _ _ _ _ _ _ us hl => by obtain ⟨u0, e⟩ := lenL1 hl; subst e; rfl
 have gPO := W.mg_of X G aPO
 have FRP := fun_mk (st := sReadP) lRP c_RP kRP
 have bRP := FRP.binds (ps := ["text"]) fun _ _ _ _ _ _ us hl => by obtain ⟨u0, e⟩ := lenL1 hl; subst e; rfl
 have gRP := W.mg_of X G aRP
 have FCA := fun_mk (st := sCellAt) lCA c_CA kCA
 have bCA := FCA.binds (ps := ["_law_script", "_law_k"]) fun _ _ _ _ _ _ us hl => by obtain ⟨u0, u1, e⟩ := lenL2 hl; subst e; rfl
 have gCA := W.mg_of X G aCA
 have FMI := fun_mk (st := sMixed) lMI c_MI kMI
 have bMI := FMI.binds (ps := ["_law_cell", "_law_k"]) fun _ _ _ _ _ _ us hl => by obtain ⟨u0, u1, e⟩ := lenL2 hl; subst e; rfl
 have gMI := W.mg_of X G aMI
 have FLS := fun_mk (st := sLStep) lLS c_LS kLS
 have bLS := FLS.binds (ps := ["_law_draw", "_law_cell", "_law_size"]) fun _ _ _ _ _ _ us hl => by obtain ⟨u0, u1, u2, e⟩ := lenL3 hl; subst e; rfl
 have gLS := W.mg_of X G aLS
 have FLI := fun_mk (st := sLines) lLI c_LI kLI
 have bLI := FLI.binds (ps := ["_law_script"]) fun _ _ _ _ _ _ us hl => by obtain ⟨u0, e⟩ := lenL1 hl; subst e; rfl
 have gLI := W.mg_of X G aLI
 have FBW := fun_mk (st := sByWord) lBW c_BW kBW
 have bBW := FBW.binds (ps := ["_law_lines_here", "_law_cell"]) fun _ _ _ _ _ _ us hl => by obtain ⟨u0, u1, e⟩ := lenL2 hl; subst e; rfl
 have gBW := W.mg_of X G aBW
 have FBR := fun_mk (st := sByRow) lBR c_BR kBR
 have bBR := FBR.binds (ps := ["_law_lines_here", "_law_cell"]) fun _ _ _ _ _ _ us hl => by obtain ⟨u0, u1, e⟩ := lenL2 hl; subst e; rfl
 have gBR := W.mg_of X G aBR
 have FIS := fun_mk (st := sLIs) lIS c_IS kIS
 have bIS := FIS.binds (ps := ["_law_words", "_law_size"]) fun _ _ _ _ _ _ us hl => by obtain ⟨u0, u1, e⟩ := lenL2 hl; subst e; rfl
 have gIS := W.mg_of X G aIS
 have FGD := fun_mk (st := sGood) lGD c_GD kGD
 have bGD := FGD.binds (ps := ["_law_lines_here"]) fun _ _ _ _ _ _ us hl => by obtain ⟨u0, e⟩ := lenL1 hl; subst e; rfl
 have gGD := W.mg_of X G aGD
 have FRF := fun_mk (st := sRefd) lRF c_RF kRF
 have bRF := FRF.binds (ps := ["_law_thing"]) fun _ _ _ _ _ _ us hl => by obtain ⟨u0, e⟩ := lenL1 hl; subst e; rfl
 have gRF := W.mg_of X G aRF
 have FLaw := fun_mk (st := sLaw) lLaw c_Law kLaw
 have gLaw := W.mg_of X G aLaw
 have gCStep := W.mg_of X G aCStep
 have clStep : Cls K cStep := ⟨pgStep, hdStep, poStep, saStep⟩
 have gCPut := W.mg_of X G aCPut
 have clPut : Cls K cPut := ⟨pgPut, hdPut, poPut, saPut⟩
 have gCAdd := W.mg_of X G aCAdd
 have clAdd : Cls K cAdd := ⟨pgAdd, hdAdd, poAdd, saAdd⟩
 have gCSet := W.mg_of X G aCSet
 have clSet : Cls K cSet := ⟨pgSet, hdSet, poSet, saSet⟩
 have gCLook := W.mg_of X G aCLook
 have clLook : Cls K cLook := ⟨pgLook, hdLook, poLook, saLook⟩
 have gCSwap := W.mg_of X G aCSwap
 have clSwap : Cls K cSwap := ⟨pgSwap, hdSwap, poSwap, saSwap⟩
 have gCSkip := W.mg_of X G aCSkip
 have clSkip : Cls K cSkip := ⟨pgSkip, hdSkip, poSkip, saSkip⟩
 have gCClear := W.mg_of X G aCClear
 have clClear : Cls K cClear := ⟨pgClear, hdClear, poClear, saClear⟩
 have MPut : Mk K cPut fPut := ⟨mkPut, inPut, iPut, kcPut⟩
 have MAdd : Mk K cAdd fAdd := ⟨mkAdd, inAdd, iAdd, kcAdd⟩
 have MSet : Mk K cSet fSet := ⟨mkSet, inSet, iSet, kcSet⟩
 have MLook : Mk K cLook fLook := ⟨mkLook, inLook, iLook, kcLook⟩
 have MSwap : Mk K cSwap fSwap := ⟨mkSwap, inSwap, iSwap, kcSwap⟩
 have MSkip : Mk K cSkip fSkip := ⟨mkSkip, inSkip, iSkip, kcSkip⟩
 have MClear : Mk K cClear fI := ⟨mkClear, inClear, iI, kcClear⟩
 have cfStep___init__ : ClsFn K cStep "__init__" fI := ⟨spStep, rdStep, fcStep___init__, kI⟩
 have zz_isinstance := W.mg_none_of X G z_isinstance
 have zz_int := W.mg_none_of X G z_int
 have zz_bool := W.mg_none_of X G z_bool
 have zz_str := W.mg_none_of X G z_str
 have zz_tuple := W.mg_none_of X G z_tuple
 have zz_len := W.mg_none_of X G z_len
 have zz_all := W.mg_none_of X G z_all
 have zz_zip := W.mg_none_of X G z_zip
 have zz_enumerate := W.mg_none_of X G z_enumerate
 have zz_range := W.mg_none_of X G z_range
 have zz_list := W.mg_none_of X G z_list
 have zz_ValueError := W.mg_none_of X G z_ValueError
 have vv_TOP : ∃ u, mg "TOP" = some u ∧ RelV (.int TOPi) u := ⟨_, W.mg_of X G v_TOP, _, rfl⟩
 have vv_NAMES : ∃ u, mg "NAMES" = some u ∧ RelV (.int 12) u := ⟨_, W.mg_of X G v_NAMES, _, rfl⟩
 have vv_REGISTERS : ∃ u, mg "REGISTERS" = some u ∧ RelV (.int 4) u := ⟨_, W.mg_of X G v_REGISTERS, _, rfl⟩
 have vv_LONGEST : ∃ u, mg "LONGEST" = some u ∧ RelV (.int 120) u := ⟨_, W.mg_of X G v_LONGEST, _, rfl⟩
 have vv_CLERKS : ∃ u, mg "CLERKS" = some u ∧ RelV (.int 4) u := ⟨_, W.mg_of X G v_CLERKS, _, rfl⟩
 have vv_MOST_FIGURES : ∃ u, mg "MOST_FIGURES" = some u ∧ RelV (.int 60) u := ⟨_, W.mg_of X G v_MOST_FIGURES, _, rfl⟩
 have vv_HEAD : ∃ u, mg "HEAD" = some u ∧ RelV (.str "clerk") u := ⟨_, W.mg_of X G w_HEAD, _, rfl⟩
 have vv_FIGURES : ∃ u, mg "FIGURES" = some u ∧ RelV (.str "0123456789") u := ⟨_, W.mg_of X G w_FIGURES, _, rfl⟩
 have xg_Er := W.mg_of X G xa_Er
 have xg_No := W.mg_of X G xa_No
 have XNo : XFacts K xNo xEr := ⟨⟨xe_No, xk_No⟩, xs_No, xb_No, xt_No, xv_No⟩
 have xg_NC := W.mg_of X G xa_NC
 have xg_NP := W.mg_of X G xa_NP
 have xg_NT := W.mg_of X G xa_NT
 have xg_NL := W.mg_of X G xa_NL
 have bl : Bl mg := ⟨zz_isinstance, zz_int, zz_bool, zz_str, zz_tuple, zz_len, zz_all, zz_zip⟩
 have cn : Cn mg := ⟨vv_TOP, vv_NAMES, vv_REGISTERS, vv_LONGEST⟩
 have tx : Tx mg := ⟨vv_HEAD, vv_FIGURES, vv_MOST_FIGURES⟩
 have T1 : StepsT K mg ⟨fW, fB, fS, fO, fI, fPut, fAdd, fSet, fLook, fSwap, fSkip, cStep, cPut, cAdd, cSet, cLook, cSwap, cClear, cSkip, _, _, _, _, _, _, _, _, _, _, _⟩ :=
  ⟨bl, cn, FW, bW, gW, FB, bB, gB, FS, bS, gS, FO, bO, gO, ⟨FI, bI, cfStep___init__, gCStep, zz_tuple⟩, clClear, nClear_parts, MClear, gCClear,
  clPut, nPut_parts, nPut_reg, nPut_number, MPut, gCPut, FPut, bPut,
  clAdd, nAdd_parts, nAdd_reg, nAdd_other, MAdd, gCAdd, FAdd, bAdd,
  clSet, nSet_parts, nSet_name, nSet_reg, MSet, gCSet, FSet, bSet,
  clLook, nLook_parts, nLook_reg, nLook_name, MLook, gCLook, FLook, bLook,
  clSwap, nSwap_parts, nSwap_reg, nSwap_name, MSwap, gCSwap, FSwap, bSwap,
  clSkip, nSkip_parts, nSkip_reg, nSkip_place, MSkip, gCSkip, FSkip, bSkip⟩
 have xf : XF K xNP := ⟨y_ps, by
  cases e : W.clsIn K xNP with
  | none => rw [e] at y_pc; cases y_pc
  | some cd =>
   rw [e] at y_pc
   have z : (onlyExc cd.mro && cd.hasDict) = true := y_pc
   rw [Bool.and_eq_true] at z
   exact ⟨cd, rfl, z.1, z.2⟩, y_gaNP, y_gnNP, y_bxNP⟩
 subst y_nt
 have xc : XC K chNT := ⟨y_te, kc_NT⟩
 have xr : XR K xNC xNP := ⟨y_nC, y_nP, y_bC, y_bP, y_cc, y_pc2, y_pp⟩
 have xt : XT K xEr xNP xNC xNo xNL := ⟨⟨y_gaNT, y_gnNT, y_bxNT, y_khNT, y_kcNT, y_gt, y_tk, y_kmNT⟩, y_keNT, y_oNTNP, y_oNTNC, y_oNTNo, y_oNTNL, y_oNTNT, y_vNT⟩
 exact ⟨W.fnOf "law" "law" (defArgs sLaw) (defBody sLaw) (defScope sLaw) .none kVLaw dcLaw pmLaw anLaw cdLaw ctLaw, fun s v => .of_eq rfl, fun base h1 h2 => ok_law0 FLaw bl (ok_cell FCA bl.len) kCA bCA gCA (ok_Lines FLI zz_range (ok_cell FCA bl.len) kCA bCA gCA (ok_mix FMI) kMI bMI gMI (ok_LS FLS bl) kLS bLS gLS) kLI bLI gLI (ok_Text FPT tx (ok_Row FRO bl) kRO bRO gRO) kPT bPT gPT (ok_Read FRP bl (ok_Parts FPO bl tx (ok_ToldOf FTO bl (ok_NumOf FNO bl (ok_Num FIN bl tx) kIN bIN gIN) kNO bNO gNO) kTO bTO gTO) kPO bPO gPO (ok_Look FLO bl zz_enumerate (ok_Has FHC bl vv_CLERKS) kHC bHC gHC (ok_Fits FFI T1 ⟨y_gt, y_tk, ⟨y_clPut, y_mrPut, y_onPut⟩, ⟨y_clAdd, y_mrAdd, y_onAdd⟩, ⟨y_clSet, y_mrSet, y_onSet⟩, ⟨y_clLook, y_mrLook, y_onLook⟩, ⟨y_clSwap, y_mrSwap, y_onSwap⟩, ⟨y_clClear, y_mrClear, y_onClear⟩, ⟨y_clSkip, y_mrSkip, y_onSkip⟩⟩ XNo xg_No) kFI bFI gFI ⟨y_ce, kc_NC⟩ xg_NC ⟨y_pe, aNPI, iNPI, kc_NP⟩ (ok_NP FNPI xf y_n1 y_n2) bNPI xg_NP) kLO bLO gLO) kRP bRP gRP (ok_Refd FRF bl.isi zz_ValueError (ok_ReadX FRP bl (ok_PartsG FPO bl tx (ok_ToldG FTO bl (ok_NumOfG FNO bl (ok_NumG FIN bl tx) kIN bIN gIN) kNO bNO gNO) kTO bTO gTO xc xg_NT) kPO bPO gPO (ok_Look FLO bl zz_enumerate (ok_Has FHC bl vv_CLERKS) kHC bHC gHC (ok_Fits FFI T1 ⟨y_gt, y_tk, ⟨y_clPut, y_mrPut, y_onPut⟩, ⟨y_clAdd, y_mrAdd, y_onAdd⟩, ⟨y_clSet, y_mrSet, y_onSet⟩, ⟨y_clLook, y_mrLook, y_onLook⟩, ⟨y_clSwap, y_mrSwap, y_onSwap⟩, ⟨y_clClear, y_mrClear, y_onClear⟩, ⟨y_clSkip, y_mrSkip, y_onSkip⟩⟩ XNo xg_No) kFI bFI gFI ⟨y_ce, kc_NC⟩ xg_NC ⟨y_pe, aNPI, iNPI, kc_NP⟩ (ok_NP FNPI xf y_n1 y_n2) bNPI xg_NP) kLO bLO gLO xc xg_NT xg_NC xg_NP xr) kRP bRP gRP xg_Er y_be xg_NP xg_NC xg_No xg_NT xg_NL xt) kRF bRF gRF (ok_ByW FBW bl) kBW bBW gBW (ok_ByR FBR bl zz_list) kBR bBR gBR (ok_Good FGD bl (ok_LIs FIS bl zz_range) kIS bIS gIS) kGD bGD gGD⟩
theorem facts {l : W.OpenLaw} {w : World} {K : W.Frag} {h : Heap} {mg : Str → Option Value} {fa : Addr} (E : (seen K, seenF K) = (true, goodF)) (X : K.In h) (G : h.Ns mainGlobals mg) (hfa : mg "law" = some (.ref fa)) :
  ∃ fd : FuncData, (∀ (s : Shared) (v : Value), BindsTo s fd ⟨[v], []⟩ [("_law_script", v)]) ∧ ∀ base : Heap, K.In base → base.Ns mainGlobals mg → FnOk l.prog w K mg base CX0 9 fa fd ["_law_script"] (spLaw K) := by
 obtain ⟨hb, hl⟩ := Prod.mk.inj E
 unfold seen at hb
 unfold seenF goodF at hl
 obtain ⟨g0, hb⟩ := HT.andB hb
 obtain ⟨g1, hb⟩ := HT.andB hb
 obtain ⟨g2, hb⟩ := HT.andB hb
 obtain ⟨g3, hb⟩ := HT.andB hb
 obtain ⟨g4, hb⟩ := HT.andB hb
 obtain ⟨g5, hb⟩ := HT.andB hb
 obtain ⟨g6, hb⟩ := HT.andB hb
 obtain ⟨g7, hb⟩ := HT.andB hb
 obtain ⟨g8, hb⟩ := HT.andB hb
 obtain ⟨g9, hb⟩ := HT.andB hb
 obtain ⟨g10, hb⟩ := HT.andB hb
 obtain ⟨g11, hb⟩ := HT.andB hb
 obtain ⟨g12, hb⟩ := HT.andB hb
 obtain ⟨g13, hb⟩ := HT.andB hb
 obtain ⟨g14, hb⟩ := HT.andB hb
 obtain ⟨g15, hb⟩ := HT.andB hb
 obtain ⟨g16, hb⟩ := HT.andB hb
 obtain ⟨g17, hb⟩ := HT.andB hb
 obtain ⟨g18, hb⟩ := HT.andB hb
 obtain ⟨g19, hb⟩ := HT.andB hb
 obtain ⟨g20, hb⟩ := HT.andB hb
 obtain ⟨g21, hb⟩ := HT.andB hb
 obtain ⟨g22, hb⟩ := HT.andB hb
 obtain ⟨g23, hb⟩ := HT.andB hb
 obtain ⟨g24, hb⟩ := HT.andB hb
 obtain ⟨g25, hb⟩ := HT.andB hb
 obtain ⟨g26, hb⟩ := HT.andB hb
 obtain ⟨g27, hb⟩ := HT.andB hb
 unfold seen_0 at g0
 obtain ⟨xa_Er, g0⟩ := HT.andB g0
 replace xa_Er := HT.rf_eq xa_Er
 obtain ⟨xa_No, g0⟩ := HT.andB g0
 replace xa_No := HT.rf_eq xa_No
 obtain ⟨xa_NC, g0⟩ := HT.andB g0
 replace xa_NC := HT.rf_eq xa_NC
 obtain ⟨xa_NP, g0⟩ := HT.andB g0
 replace xa_NP := HT.rf_eq xa_NP
 obtain ⟨xa_NT, g0⟩ := HT.andB g0
 replace xa_NT := HT.rf_eq xa_NT
 obtain ⟨xa_NL, g0⟩ := HT.andB g0
 replace xa_NL := HT.rf_eq xa_NL
 obtain ⟨aCStep, g0⟩ := HT.andB g0
 replace aCStep := HT.rf_eq aCStep
 obtain ⟨aCPut, g0⟩ := HT.andB g0
 replace aCPut := HT.rf_eq aCPut
 obtain ⟨aCAdd, g0⟩ := HT.andB g0
 replace aCAdd := HT.rf_eq aCAdd
 obtain ⟨aCSet, g0⟩ := HT.andB g0
 replace aCSet := HT.rf_eq aCSet
 unfold seen_1 at g1
 obtain ⟨aCLook, g1⟩ := HT.andB g1
 replace aCLook := HT.rf_eq aCLook
 obtain ⟨aCSwap, g1⟩ := HT.andB g1
 replace aCSwap := HT.rf_eq aCSwap
 obtain ⟨aCSkip, g1⟩ := HT.andB g1
 replace aCSkip := HT.rf_eq aCSkip
 obtain ⟨aCClear, g1⟩ := HT.andB g1
 replace aCClear := HT.rf_eq aCClear
 obtain ⟨aW, g1⟩ := HT.andB g1
 replace aW := HT.rf_eq aW
 obtain ⟨c_W, g1⟩ := HT.andB g1
 obtain ⟨kW, g1⟩ := HT.andB g1
 obtain ⟨aB, g1⟩ := HT.andB g1
 replace aB := HT.rf_eq aB
 obtain ⟨c_B, g1⟩ := HT.andB g1
 obtain ⟨kB, g1⟩ := HT.andB g1
 unfold seen_2 at g2
 obtain ⟨aS, g2⟩ := HT.andB g2
 replace aS := HT.rf_eq aS
 obtain ⟨c_S, g2⟩ := HT.andB g2
 obtain ⟨kS, g2⟩ := HT.andB g2
 obtain ⟨aO, g2⟩ := HT.andB g2
 replace aO := HT.rf_eq aO
 obtain ⟨c_O, g2⟩ := HT.andB g2
 obtain ⟨kO, g2⟩ := HT.andB g2
 obtain ⟨aI, g2⟩ := HT.andB g2
 replace aI := HT.rf_eq aI
 obtain ⟨c_I, g2⟩ := HT.andB g2
 obtain ⟨kI, g2⟩ := HT.andB g2
 obtain ⟨iI, g2⟩ := HT.andB g2
 unfold seen_3 at g3
 obtain ⟨aPut, g3⟩ := HT.andB g3
 replace aPut := HT.rf_eq aPut
 obtain ⟨c_Put, g3⟩ := HT.andB g3
 obtain ⟨kPut, g3⟩ := HT.andB g3
 obtain ⟨iPut, g3⟩ := HT.andB g3
 obtain ⟨aAdd, g3⟩ := HT.andB g3
 replace aAdd := HT.rf_eq aAdd
 obtain ⟨c_Add, g3⟩ := HT.andB g3
 obtain ⟨kAdd, g3⟩ := HT.andB g3
 obtain ⟨iAdd, g3⟩ := HT.andB g3
 obtain ⟨aSet, g3⟩ := HT.andB g3
 replace aSet := HT.rf_eq aSet
 obtain ⟨c_Set, g3⟩ := HT.andB g3
 unfold seen_4 at g4
 obtain ⟨kSet, g4⟩ := HT.andB g4
 obtain ⟨iSet, g4⟩ := HT.andB g4
 obtain ⟨aLook, g4⟩ := HT.andB g4
 replace aLook := HT.rf_eq aLook
 obtain ⟨c_Look, g4⟩ := HT.andB g4
 obtain ⟨kLook, g4⟩ := HT.andB g4
 obtain ⟨iLook, g4⟩ := HT.andB g4
 obtain ⟨aSwap, g4⟩ := HT.andB g4
 replace aSwap := HT.rf_eq aSwap
 obtain ⟨c_Swap, g4⟩ := HT.andB g4
 obtain ⟨kSwap, g4⟩ := HT.andB g4
 obtain ⟨iSwap, g4⟩ := HT.andB g4
 unfold seen_5 at g5
 obtain ⟨aSkip, g5⟩ := HT.andB g5
 replace aSkip := HT.rf_eq aSkip
 obtain ⟨c_Skip, g5⟩ := HT.andB g5
 obtain ⟨kSkip, g5⟩ := HT.andB g5
 obtain ⟨iSkip, g5⟩ := HT.andB g5
 obtain ⟨aNPI, g5⟩ := HT.andB g5
 replace aNPI := HT.rf_eq aNPI
 obtain ⟨c_NPI, g5⟩ := HT.andB g5
 obtain ⟨kNPI, g5⟩ := HT.andB g5
 obtain ⟨iNPI, g5⟩ := HT.andB g5
 obtain ⟨aHC, g5⟩ := HT.andB g5
 replace aHC := HT.rf_eq aHC
 obtain ⟨c_HC, g5⟩ := HT.andB g5
 unfold seen_6 at g6
 obtain ⟨kHC, g6⟩ := HT.andB g6
 obtain ⟨aFI, g6⟩ := HT.andB g6
 replace aFI := HT.rf_eq aFI
 obtain ⟨c_FI, g6⟩ := HT.andB g6
 obtain ⟨kFI, g6⟩ := HT.andB g6
 obtain ⟨aLO, g6⟩ := HT.andB g6
 replace aLO := HT.rf_eq aLO
 obtain ⟨c_LO, g6⟩ := HT.andB g6
 obtain ⟨kLO, g6⟩ := HT.andB g6
 obtain ⟨aRO, g6⟩ := HT.andB g6
 replace aRO := HT.rf_eq aRO
 obtain ⟨c_RO, g6⟩ := HT.andB g6
 obtain ⟨kRO, g6⟩ := HT.andB g6
 unfold seen_7 at g7
 obtain ⟨aPT, g7⟩ := HT.andB g7
 replace aPT := HT.rf_eq aPT
 obtain ⟨c_PT, g7⟩ := HT.andB g7
 obtain ⟨kPT, g7⟩ := HT.andB g7
 obtain ⟨aIN, g7⟩ := HT.andB g7
 replace aIN := HT.rf_eq aIN
 obtain ⟨c_IN, g7⟩ := HT.andB g7
 obtain ⟨kIN, g7⟩ := HT.andB g7
 obtain ⟨aNO, g7⟩ := HT.andB g7
 replace aNO := HT.rf_eq aNO
 obtain ⟨c_NO, g7⟩ := HT.andB g7
 obtain ⟨kNO, g7⟩ := HT.andB g7
 obtain ⟨aTO, g7⟩ := HT.andB g7
 replace aTO := HT.rf_eq aTO
 unfold seen_8 at g8
 obtain ⟨c_TO, g8⟩ := HT.andB g8
 obtain ⟨kTO, g8⟩ := HT.andB g8
 obtain ⟨aPO, g8⟩ := HT.andB g8
 replace aPO := HT.rf_eq aPO
 obtain ⟨c_PO, g8⟩ := HT.andB g8
 obtain ⟨kPO, g8⟩ := HT.andB g8
 obtain ⟨aRP, g8⟩ := HT.andB g8
 replace aRP := HT.rf_eq aRP
 obtain ⟨c_RP, g8⟩ := HT.andB g8
 obtain ⟨kRP, g8⟩ := HT.andB g8
 obtain ⟨aCA, g8⟩ := HT.andB g8
 replace aCA := HT.rf_eq aCA
 obtain ⟨c_CA, g8⟩ := HT.andB g8
 unfold seen_9 at g9
 obtain ⟨kCA, g9⟩ := HT.andB g9
 obtain ⟨aMI, g9⟩ := HT.andB g9
 replace aMI := HT.rf_eq aMI
 obtain ⟨c_MI, g9⟩ := HT.andB g9
 obtain ⟨kMI, g9⟩ := HT.andB g9
 obtain ⟨aLS, g9⟩ := HT.andB g9
 replace aLS := HT.rf_eq aLS
 obtain ⟨c_LS, g9⟩ := HT.andB g9
 obtain ⟨kLS, g9⟩ := HT.andB g9
 obtain ⟨aLI, g9⟩ := HT.andB g9
 replace aLI := HT.rf_eq aLI
 obtain ⟨c_LI, g9⟩ := HT.andB g9
 obtain ⟨kLI, g9⟩ := HT.andB g9
 unfold seen_10 at g10
 obtain ⟨aBW, g10⟩ := HT.andB g10
 replace aBW := HT.rf_eq aBW
 obtain ⟨c_BW, g10⟩ := HT.andB g10
 obtain ⟨kBW, g10⟩ := HT.andB g10
 obtain ⟨aBR, g10⟩ := HT.andB g10
 replace aBR := HT.rf_eq aBR
 obtain ⟨c_BR, g10⟩ := HT.andB g10
 obtain ⟨kBR, g10⟩ := HT.andB g10
 obtain ⟨aIS, g10⟩ := HT.andB g10
 replace aIS := HT.rf_eq aIS
 obtain ⟨c_IS, g10⟩ := HT.andB g10
 obtain ⟨kIS, g10⟩ := HT.andB g10
 obtain ⟨aGD, g10⟩ := HT.andB g10
 replace aGD := HT.rf_eq aGD
 unfold seen_11 at g11
 obtain ⟨c_GD, g11⟩ := HT.andB g11
 obtain ⟨kGD, g11⟩ := HT.andB g11
 obtain ⟨aRF, g11⟩ := HT.andB g11
 replace aRF := HT.rf_eq aRF
 obtain ⟨c_RF, g11⟩ := HT.andB g11
 obtain ⟨kRF, g11⟩ := HT.andB g11
 obtain ⟨aLaw, g11⟩ := HT.andB g11
 replace aLaw := HT.rf_eq aLaw
 obtain ⟨c_Law, g11⟩ := HT.andB g11
 obtain ⟨kLaw, g11⟩ := HT.andB g11
 obtain ⟨pgStep, g11⟩ := HT.andB g11
 obtain ⟨hdStep, g11⟩ := HT.andB g11
 unfold seen_12 at g12
 obtain ⟨poStep, g12⟩ := HT.andB g12
 obtain ⟨saStep, g12⟩ := HT.andD g12
 obtain ⟨pgPut, g12⟩ := HT.andB g12
 obtain ⟨hdPut, g12⟩ := HT.andB g12
 obtain ⟨poPut, g12⟩ := HT.andB g12
 obtain ⟨saPut, g12⟩ := HT.andD g12
 obtain ⟨mkPut, g12⟩ := HT.andB g12
 obtain ⟨kcPut, g12⟩ := HT.andB g12
 obtain ⟨nPut_parts, g12⟩ := HT.andD g12
 obtain ⟨nPut_reg, g12⟩ := HT.andD g12
 unfold seen_13 at g13
 obtain ⟨nPut_number, g13⟩ := HT.andD g13
 obtain ⟨pgAdd, g13⟩ := HT.andB g13
 obtain ⟨hdAdd, g13⟩ := HT.andB g13
 obtain ⟨poAdd, g13⟩ := HT.andB g13
 obtain ⟨saAdd, g13⟩ := HT.andD g13
 obtain ⟨mkAdd, g13⟩ := HT.andB g13
 obtain ⟨kcAdd, g13⟩ := HT.andB g13
 obtain ⟨nAdd_parts, g13⟩ := HT.andD g13
 obtain ⟨nAdd_reg, g13⟩ := HT.andD g13
 obtain ⟨nAdd_other, g13⟩ := HT.andD g13
 unfold seen_14 at g14
 obtain ⟨pgSet, g14⟩ := HT.andB g14
 obtain ⟨hdSet, g14⟩ := HT.andB g14
 obtain ⟨poSet, g14⟩ := HT.andB g14
 obtain ⟨saSet, g14⟩ := HT.andD g14
 obtain ⟨mkSet, g14⟩ := HT.andB g14
 obtain ⟨kcSet, g14⟩ := HT.andB g14
 obtain ⟨nSet_parts, g14⟩ := HT.andD g14
 obtain ⟨nSet_name, g14⟩ := HT.andD g14
 obtain ⟨nSet_reg, g14⟩ := HT.andD g14
 obtain ⟨pgLook, g14⟩ := HT.andB g14
 unfold seen_15 at g15
 obtain ⟨hdLook, g15⟩ := HT.andB g15
 obtain ⟨poLook, g15⟩ := HT.andB g15
 obtain ⟨saLook, g15⟩ := HT.andD g15
 obtain ⟨mkLook, g15⟩ := HT.andB g15
 obtain ⟨kcLook, g15⟩ := HT.andB g15
 obtain ⟨nLook_parts, g15⟩ := HT.andD g15
 obtain ⟨nLook_reg, g15⟩ := HT.andD g15
 obtain ⟨nLook_name, g15⟩ := HT.andD g15
 obtain ⟨pgSwap, g15⟩ := HT.andB g15
 obtain ⟨hdSwap, g15⟩ := HT.andB g15
 unfold seen_16 at g16
 obtain ⟨poSwap, g16⟩ := HT.andB g16
 obtain ⟨saSwap, g16⟩ := HT.andD g16
 obtain ⟨mkSwap, g16⟩ := HT.andB g16
 obtain ⟨kcSwap, g16⟩ := HT.andB g16
 obtain ⟨nSwap_parts, g16⟩ := HT.andD g16
 obtain ⟨nSwap_reg, g16⟩ := HT.andD g16
 obtain ⟨nSwap_name, g16⟩ := HT.andD g16
 obtain ⟨pgSkip, g16⟩ := HT.andB g16
 obtain ⟨hdSkip, g16⟩ := HT.andB g16
 obtain ⟨poSkip, g16⟩ := HT.andB g16
 unfold seen_17 at g17
 obtain ⟨saSkip, g17⟩ := HT.andD g17
 obtain ⟨mkSkip, g17⟩ := HT.andB g17
 obtain ⟨kcSkip, g17⟩ := HT.andB g17
 obtain ⟨nSkip_parts, g17⟩ := HT.andD g17
 obtain ⟨nSkip_reg, g17⟩ := HT.andD g17
 obtain ⟨nSkip_place, g17⟩ := HT.andD g17
 obtain ⟨pgClear, g17⟩ := HT.andB g17
 obtain ⟨hdClear, g17⟩ := HT.andB g17
 obtain ⟨poClear, g17⟩ := HT.andB g17
 obtain ⟨saClear, g17⟩ := HT.andD g17
 unfold seen_18 at g18
 obtain ⟨mkClear, g18⟩ := HT.andB g18
 obtain ⟨kcClear, g18⟩ := HT.andB g18
 obtain ⟨nClear_parts, g18⟩ := HT.andD g18
 obtain ⟨inPut, g18⟩ := HT.andD g18
 obtain ⟨inAdd, g18⟩ := HT.andD g18
 obtain ⟨inSet, g18⟩ := HT.andD g18
 obtain ⟨inLook, g18⟩ := HT.andD g18
 obtain ⟨inSwap, g18⟩ := HT.andD g18
 obtain ⟨inSkip, g18⟩ := HT.andD g18
 obtain ⟨inClear, g18⟩ := HT.andD g18
 unfold seen_19 at g19
 obtain ⟨spStep, g19⟩ := HT.andD g19
 obtain ⟨rdStep, g19⟩ := HT.andB g19
 obtain ⟨fcStep___init__, g19⟩ := HT.andB g19
 replace fcStep___init__ := HT.isV_eq fcStep___init__
 obtain ⟨z_isinstance, g19⟩ := HT.andD g19
 obtain ⟨z_int, g19⟩ := HT.andD g19
 obtain ⟨z_bool, g19⟩ := HT.andD g19
 obtain ⟨z_str, g19⟩ := HT.andD g19
 obtain ⟨z_tuple, g19⟩ := HT.andD g19
 obtain ⟨z_len, g19⟩ := HT.andD g19
 obtain ⟨z_all, g19⟩ := HT.andD g19
 unfold seen_20 at g20
 obtain ⟨z_zip, g20⟩ := HT.andD g20
 obtain ⟨z_enumerate, g20⟩ := HT.andD g20
 obtain ⟨z_range, g20⟩ := HT.andD g20
 obtain ⟨z_list, g20⟩ := HT.andD g20
 obtain ⟨z_ValueError, g20⟩ := HT.andD g20
 obtain ⟨v_TOP, g20⟩ := HT.andB g20
 obtain ⟨t_TOP, v_TOP⟩ := HT.isI_eq v_TOP
 obtain ⟨v_NAMES, g20⟩ := HT.andB g20
 obtain ⟨t_NAMES, v_NAMES⟩ := HT.isI_eq v_NAMES
 obtain ⟨v_REGISTERS, g20⟩ := HT.andB g20
 obtain ⟨t_REGISTERS, v_REGISTERS⟩ := HT.isI_eq v_REGISTERS
 obtain ⟨v_LONGEST, g20⟩ := HT.andB g20
 obtain ⟨t_LONGEST, v_LONGEST⟩ := HT.isI_eq v_LONGEST
 obtain ⟨v_CLERKS, g20⟩ := HT.andB g20
 obtain ⟨t_CLERKS, v_CLERKS⟩ := HT.isI_eq v_CLERKS
 unfold seen_21 at g21
 obtain ⟨v_MOST_FIGURES, g21⟩ := HT.andB g21
 obtain ⟨t_MOST_FIGURES, v_MOST_FIGURES⟩ := HT.isI_eq v_MOST_FIGURES
 obtain ⟨w_HEAD, g21⟩ := HT.andB g21
 obtain ⟨t_HEAD, w_HEAD⟩ := HT.isS_eq w_HEAD
 obtain ⟨w_FIGURES, g21⟩ := HT.andB g21
 obtain ⟨t_FIGURES, w_FIGURES⟩ := HT.isS_eq w_FIGURES
 obtain ⟨xe_No, g21⟩ := HT.andB g21
 obtain ⟨xk_No, g21⟩ := HT.andB g21
 obtain ⟨xs_No, g21⟩ := HT.andD g21
 obtain ⟨xb_No, g21⟩ := HT.andD g21
 obtain ⟨xt_No, g21⟩ := HT.andD g21
 obtain ⟨xv_No, g21⟩ := HT.andD g21
 obtain ⟨y_gt, g21⟩ := HT.andD g21
 unfold seen_22 at g22
 obtain ⟨y_tk, g22⟩ := HT.andD g22
 obtain ⟨y_ce, g22⟩ := HT.andB g22
 obtain ⟨kc_NC, g22⟩ := HT.andB g22
 obtain ⟨y_pe, g22⟩ := HT.andB g22
 obtain ⟨kc_NP, g22⟩ := HT.andB g22
 obtain ⟨y_ps, g22⟩ := HT.andD g22
 obtain ⟨y_pc, g22⟩ := HT.andB g22
 obtain ⟨y_n1, g22⟩ := HT.andD g22
 obtain ⟨y_n2, g22⟩ := HT.andD g22
 obtain ⟨y_gaNP, g22⟩ := HT.andD g22
 unfold seen_23 at g23
 obtain ⟨y_gnNP, g23⟩ := HT.andD g23
 obtain ⟨y_bxNP, g23⟩ := HT.andD g23
 obtain ⟨y_clPut, g23⟩ := HT.andD g23
 obtain ⟨y_mrPut, g23⟩ := HT.andD g23
 obtain ⟨y_onPut, g23⟩ := HT.andD g23
 obtain ⟨y_clAdd, g23⟩ := HT.andD g23
 obtain ⟨y_mrAdd, g23⟩ := HT.andD g23
 obtain ⟨y_onAdd, g23⟩ := HT.andD g23
 obtain ⟨y_clSet, g23⟩ := HT.andD g23
 obtain ⟨y_mrSet, g23⟩ := HT.andD g23
 unfold seen_24 at g24
 obtain ⟨y_onSet, g24⟩ := HT.andD g24
 obtain ⟨y_clLook, g24⟩ := HT.andD g24
 obtain ⟨y_mrLook, g24⟩ := HT.andD g24
 obtain ⟨y_onLook, g24⟩ := HT.andD g24
 obtain ⟨y_clSwap, g24⟩ := HT.andD g24
 obtain ⟨y_mrSwap, g24⟩ := HT.andD g24
 obtain ⟨y_onSwap, g24⟩ := HT.andD g24
 obtain ⟨y_clSkip, g24⟩ := HT.andD g24
 obtain ⟨y_mrSkip, g24⟩ := HT.andD g24
 obtain ⟨y_onSkip, g24⟩ := HT.andD g24
 unfold seen_25 at g25
 obtain ⟨y_clClear, g25⟩ := HT.andD g25
 obtain ⟨y_mrClear, g25⟩ := HT.andD g25
 obtain ⟨y_onClear, g25⟩ := HT.andD g25
 obtain ⟨y_be, g25⟩ := HT.andD g25
 obtain ⟨y_te, g25⟩ := HT.andB g25
 obtain ⟨kc_NT, g25⟩ := HT.andB g25
 obtain ⟨y_nC, g25⟩ := HT.andD g25
 obtain ⟨y_nP, g25⟩ := HT.andD g25
 obtain ⟨y_bC, g25⟩ := HT.andD g25
 obtain ⟨y_bP, g25⟩ := HT.andD g25
 unfold seen_26 at g26
 obtain ⟨y_cc, g26⟩ := HT.andD g26
 obtain ⟨y_pc2, g26⟩ := HT.andD g26
 obtain ⟨y_pp, g26⟩ := HT.andD g26
 obtain ⟨y_gaNT, g26⟩ := HT.andD g26
 obtain ⟨y_gnNT, g26⟩ := HT.andD g26
 obtain ⟨y_bxNT, g26⟩ := HT.andD g26
 obtain ⟨y_khNT, g26⟩ := HT.andB g26
 obtain ⟨y_kcNT, g26⟩ := HT.andD g26
 obtain ⟨y_kmNT, g26⟩ := HT.andD g26
 obtain ⟨y_keNT, g26⟩ := HT.andD g26
 unfold seen_27 at g27
 obtain ⟨y_vNT, g27⟩ := HT.andD g27
 obtain ⟨y_oNTNP, g27⟩ := HT.andD g27
 obtain ⟨y_oNTNC, g27⟩ := HT.andD g27
 obtain ⟨y_oNTNo, g27⟩ := HT.andD g27
 obtain ⟨y_oNTNL, g27⟩ := HT.andD g27
 obtain ⟨y_oNTNT, g27⟩ := HT.andD g27
 obtain ⟨y_nt, g27⟩ := HT.andD g27
 obtain ⟨lW, hl⟩ := List.cons.inj hl
 obtain ⟨ocW, odW, kVW, dcW, pmW, anW, cdW, ctW, slW, lW, c_W⟩ := HT.fn_of lW c_W
 obtain ⟨lB, hl⟩ := List.cons.inj hl
 obtain ⟨ocB, odB, kVB, dcB, pmB, anB, cdB, ctB, slB, lB, c_B⟩ := HT.fn_of lB c_B
 obtain ⟨lS, hl⟩ := List.cons.inj hl
 obtain ⟨ocS, odS, kVS, dcS, pmS, anS, cdS, ctS, slS, lS, c_S⟩ := HT.fn_of lS c_S
 obtain ⟨lO, hl⟩ := List.cons.inj hl
 obtain ⟨ocO, odO, kVO, dcO, pmO, anO, cdO, ctO, slO, lO, c_O⟩ := HT.fn_of lO c_O
 obtain ⟨lI, hl⟩ := List.cons.inj hl
 obtain ⟨ocI, odI, kVI, dcI, pmI, anI, cdI, ctI, slI, lI, c_I⟩ := HT.fn_of lI c_I
 obtain ⟨lPut, hl⟩ := List.cons.inj hl
 obtain ⟨ocPut, odPut, kVPut, dcPut, pmPut, anPut, cdPut, ctPut, slPut, lPut, c_Put⟩ := HT.fn_of lPut c_Put
 obtain ⟨lAdd, hl⟩ := List.cons.inj hl
 obtain ⟨ocAdd, odAdd, kVAdd, dcAdd, pmAdd, anAdd, cdAdd, ctAdd, slAdd, lAdd, c_Add⟩ := HT.fn_of lAdd c_Add
 obtain ⟨lSet, hl⟩ := List.cons.inj hl
 obtain ⟨ocSet, odSet, kVSet, dcSet, pmSet, anSet, cdSet, ctSet, slSet, lSet, c_Set⟩ := HT.fn_of lSet c_Set
 obtain ⟨lLook, hl⟩ := List.cons.inj hl
 obtain ⟨ocLook, odLook, kVLook, dcLook, pmLook, anLook, cdLook, ctLook, slLook, lLook, c_Look⟩ := HT.fn_of lLook c_Look
 obtain ⟨lSwap, hl⟩ := List.cons.inj hl
 obtain ⟨ocSwap, odSwap, kVSwap, dcSwap, pmSwap, anSwap, cdSwap, ctSwap, slSwap, lSwap, c_Swap⟩ := HT.fn_of lSwap c_Swap
 obtain ⟨lSkip, hl⟩ := List.cons.inj hl
 obtain ⟨ocSkip, odSkip, kVSkip, dcSkip, pmSkip, anSkip, cdSkip, ctSkip, slSkip, lSkip, c_Skip⟩ := HT.fn_of lSkip c_Skip
 obtain ⟨lNPI, hl⟩ := List.cons.inj hl
 obtain ⟨ocNPI, odNPI, kVNPI, dcNPI, pmNPI, anNPI, cdNPI, ctNPI, slNPI, lNPI, c_NPI⟩ := HT.fn_of lNPI c_NPI
 obtain ⟨lHC, hl⟩ := List.cons.inj hl
 obtain ⟨ocHC, odHC, kVHC, dcHC, pmHC, anHC, cdHC, ctHC, slHC, lHC, c_HC⟩ := HT.fn_of lHC c_HC
 obtain ⟨lFI, hl⟩ := List.cons.inj hl
 obtain ⟨ocFI, odFI, kVFI, dcFI, pmFI, anFI, cdFI, ctFI, slFI, lFI, c_FI⟩ := HT.fn_of lFI c_FI
 obtain ⟨lLO, hl⟩ := List.cons.inj hl
 obtain ⟨ocLO, odLO, kVLO, dcLO, pmLO, anLO, cdLO, ctLO, slLO, lLO, c_LO⟩ := HT.fn_of lLO c_LO
 obtain ⟨lRO, hl⟩ := List.cons.inj hl
 obtain ⟨ocRO, odRO, kVRO, dcRO, pmRO, anRO, cdRO, ctRO, slRO, lRO, c_RO⟩ := HT.fn_of lRO c_RO
 obtain ⟨lPT, hl⟩ := List.cons.inj hl
 obtain ⟨ocPT, odPT, kVPT, dcPT, pmPT, anPT, cdPT, ctPT, slPT, lPT, c_PT⟩ := HT.fn_of lPT c_PT
 obtain ⟨lIN, hl⟩ := List.cons.inj hl
 obtain ⟨ocIN, odIN, kVIN, dcIN, pmIN, anIN, cdIN, ctIN, slIN, lIN, c_IN⟩ := HT.fn_of lIN c_IN
 obtain ⟨lNO, hl⟩ := List.cons.inj hl
 obtain ⟨ocNO, odNO, kVNO, dcNO, pmNO, anNO, cdNO, ctNO, slNO, lNO, c_NO⟩ := HT.fn_of lNO c_NO
 obtain ⟨lTO, hl⟩ := List.cons.inj hl
 obtain ⟨ocTO, odTO, kVTO, dcTO, pmTO, anTO, cdTO, ctTO, slTO, lTO, c_TO⟩ := HT.fn_of lTO c_TO
 obtain ⟨lPO, hl⟩ := List.cons.inj hl
 obtain ⟨ocPO, odPO, kVPO, dcPO, pmPO, anPO, cdPO, ctPO, slPO, lPO, c_PO⟩ := HT.fn_of lPO c_PO
 obtain ⟨lRP, hl⟩ := List.cons.inj hl
 obtain ⟨ocRP, odRP, kVRP, dcRP, pmRP, anRP, cdRP, ctRP, slRP, lRP, c_RP⟩ := HT.fn_of lRP c_RP
 obtain ⟨lCA, hl⟩ := List.cons.inj hl
 obtain ⟨ocCA, odCA, kVCA, dcCA, pmCA, anCA, cdCA, ctCA, slCA, lCA, c_CA⟩ := HT.fn_of lCA c_CA
 obtain ⟨lMI, hl⟩ := List.cons.inj hl
 obtain ⟨ocMI, odMI, kVMI, dcMI, pmMI, anMI, cdMI, ctMI, slMI, lMI, c_MI⟩ := HT.fn_of lMI c_MI
 obtain ⟨lLS, hl⟩ := List.cons.inj hl
 obtain ⟨ocLS, odLS, kVLS, dcLS, pmLS, anLS, cdLS, ctLS, slLS, lLS, c_LS⟩ := HT.fn_of lLS c_LS
 obtain ⟨lLI, hl⟩ := List.cons.inj hl
 obtain ⟨ocLI, odLI, kVLI, dcLI, pmLI, anLI, cdLI, ctLI, slLI, lLI, c_LI⟩ := HT.fn_of lLI c_LI
 obtain ⟨lBW, hl⟩ := List.cons.inj hl
 obtain ⟨ocBW, odBW, kVBW, dcBW, pmBW, anBW, cdBW, ctBW, slBW, lBW, c_BW⟩ := HT.fn_of lBW c_BW
 obtain ⟨lBR, hl⟩ := List.cons.inj hl
 obtain ⟨ocBR, odBR, kVBR, dcBR, pmBR, anBR, cdBR, ctBR, slBR, lBR, c_BR⟩ := HT.fn_of lBR c_BR
 obtain ⟨lIS, hl⟩ := List.cons.inj hl
 obtain ⟨ocIS, odIS, kVIS, dcIS, pmIS, anIS, cdIS, ctIS, slIS, lIS, c_IS⟩ := HT.fn_of lIS c_IS
 obtain ⟨lGD, hl⟩ := List.cons.inj hl
 obtain ⟨ocGD, odGD, kVGD, dcGD, pmGD, anGD, cdGD, ctGD, slGD, lGD, c_GD⟩ := HT.fn_of lGD c_GD
 obtain ⟨lRF, hl⟩ := List.cons.inj hl
 obtain ⟨ocRF, odRF, kVRF, dcRF, pmRF, anRF, cdRF, ctRF, slRF, lRF, c_RF⟩ := HT.fn_of lRF c_RF
 obtain ⟨lLaw, hl⟩ := List.cons.inj hl
 obtain ⟨ocLaw, odLaw, kVLaw, dcLaw, pmLaw, anLaw, cdLaw, ctLaw, slLaw, lLaw, c_Law⟩ := HT.fn_of lLaw c_Law
 exact all_mk X G hfa xa_Er xa_No xa_NC xa_NP xa_NT xa_NL aCStep aCPut aCAdd aCSet aCLook aCSwap aCSkip aCClear aW lW c_W kW aB lB c_B kB aS lS c_S kS aO lO c_O kO aI lI c_I kI iI aPut lPut c_Put kPut iPut aAdd lAdd c_Add kAdd iAdd aSet lSet c_Set kSet iSet aLook lLook c_Look kLook iLook aSwap lSwap c_Swap kSwap iSwap aSkip lSkip c_Skip kSkip iSkip aNPI lNPI c_NPI kNPI iNPI aHC lHC c_HC kHC aFI lFI c_FI kFI aLO lLO c_LO kLO aRO lRO c_RO kRO aPT lPT c_PT kPT aIN lIN c_IN kIN aNO lNO c_NO kNO aTO lTO c_TO kTO aPO lPO c_PO kPO aRP lRP c_RP kRP aCA lCA c_CA kCA aMI lMI c_MI kMI aLS lLS c_LS kLS aLI lLI c_LI kLI aBW lBW c_BW kBW aBR lBR c_BR kBR aIS lIS c_IS kIS aGD lGD c_GD kGD aRF lRF c_RF kRF aLaw lLaw c_Law kLaw pgStep hdStep poStep saStep pgPut hdPut poPut saPut mkPut kcPut nPut_parts nPut_reg nPut_number pgAdd hdAdd poAdd saAdd mkAdd kcAdd nAdd_parts nAdd_reg nAdd_other pgSet hdSet poSet saSet mkSet kcSet nSet_parts nSet_name nSet_reg pgLook hdLook poLook saLook mkLook kcLook nLook_parts nLook_reg nLook_name pgSwap hdSwap poSwap saSwap mkSwap kcSwap nSwap_parts nSwap_reg nSwap_name pgSkip hdSkip poSkip saSkip mkSkip kcSkip nSkip_parts nSkip_reg nSkip_place pgClear hdClear poClear saClear mkClear kcClear nClear_parts inPut inAdd inSet inLook inSwap inSkip inClear spStep rdStep fcStep___init__ z_isinstance z_int z_bool z_str z_tuple z_len z_all z_zip z_enumerate z_range z_list z_ValueError v_TOP v_NAMES v_REGISTERS v_LONGEST v_CLERKS v_MOST_FIGURES w_HEAD w_FIGURES xe_No xk_No xs_No xb_No xt_No xv_No y_gt y_tk y_ce kc_NC y_pe kc_NP y_ps y_pc y_n1 y_n2 y_gaNP y_gnNP y_bxNP y_clPut y_mrPut y_onPut y_clAdd y_mrAdd y_onAdd y_clSet y_mrSet y_onSet y_clLook y_mrLook y_onLook y_clSwap y_mrSwap y_onSwap y_clSkip y_mrSkip y_onSkip y_clClear y_mrClear y_onClear y_be y_te kc_NT y_nC y_nP y_bC y_bP y_cc y_pc2 y_pp y_gaNT y_gnNT y_bxNT y_khNT y_kcNT y_kmNT y_keNT y_vNT y_oNTNP y_oNTNC y_oNTNo y_oNTNL y_oNTNT y_nt
theorem walk {l : W.OpenLaw} {q : Program} {loose : List Str} {XP : (Str → Option Value) → Heap → Prop} {d : DefRec} (hn : l.most = some 63) (hdf : d.params.defaults = []) (hdn : d.name = "law") :
  W.WalkO q loose XP (HT.kHook2 (fun K => (seen K, seenF K)) (true, goodF)).says l.row.toRowW d [] (fun f vs => PySem.call f vs) := by
 refine Att.attach_call hn hdf fun w s₀ s₁ mg mb fa o pm cd doc a vs ns G Y ho hd hcd hmg hobj hints hlen hg => ?_
 obtain ⟨K, KX, E⟩ := Y
 rw [hdn] at hmg
 obtain ⟨fd, hb, hF⟩ := facts (l := l) (w := w) E KX G.T.g hmg
 exact law_call KX G.T.g G.T.b G.T.builtins G.T.nolimit hg hobj hints (Nat.le_trans hlen (by decide)) ⟨rfl, by decide, by decide⟩ hF hb (fun H hO hS => ⟨a, ns, rfl, hS, hlen, fun _ => rfl⟩) fun H e s' z => z
end TL
open PySem PySem.W PyProof.Rows
set_option maxRecDepth 100000 in
set_option maxHeartbeats 0 in
theorem TL.left : W.LeftO PySem.Challenge.rw_traylate_k14_texts_of_no_program.row.prog TL.qv [] (fun s => W.xlAt TL.qv [] s && W.recOk PySem.Challenge.rw_traylate_k14_texts_of_no_program.row.records s) (HT.kHook2 (fun K => (TL.seen K, TL.seenF K)) (true, TL.goodF)).obs (HT.kHook2 (fun K => (TL.seen K, TL.seenF K)) (true, TL.goodF)).val 8972 := by
 refine HT.left_of ?a ?b ?c ?d
 case a => kernel_rfl
 case b => kernel_rfl
 case c => intro s; kernel_rfl
 case d => intro w os; exact HT.both (TL.r1 w os) (HT.both (TL.r2 w os) (TL.r3 w os))
set_option maxRecDepth 100000 in
set_option maxHeartbeats 0 in
theorem PySem.Challenge.cw_traylate_k14_texts_of_no_program_holds : PySem.Challenge.rw_traylate_k14_texts_of_no_program.Holds := by
 w_on; o_law
 refine W.holds_open (q := TL.qv) (loose := []) (XP := W.XL TL.qv []) (YP := (HT.kHook2 (fun K => (TL.seen K, TL.seenF K)) (true, TL.goodF)).says) (d := TL.dl) (kwd := []) TL.left (HT.kHook2 (fun K => (TL.seen K, TL.seenF K)) (true, TL.goodF)).of (HT.kHook2 (fun K => (TL.seen K, TL.seenF K)) (true, TL.goodF)).keeps (fun s e => W.xl_of s (Bool.and_eq_true_iff.mp e).1) W.XL.keeps ?h1 ?h2 ?h3 (fun s e => W.recFacts_of (Bool.and_eq_true_iff.mp e).2) ?h4 (by assumption) ?h5 ⟨rfl, rfl, rfl, rfl, rfl, by decide +kernel⟩ ?hw (TL.walk (l := PySem.Challenge.rw_traylate_k14_texts_of_no_program) ?w1 ?w2 ?w3)
 case h1 => kernel_rfl
 case h2 => kernel_rfl
 case h3 => kernel_rfl
 case h4 => kernel_rfl
 case h5 => kernel_rfl
 case hw => w_witness2
 case w1 => kernel_rfl
 case w2 => kernel_rfl
 case w3 => kernel_rfl
#print axioms PySem.Challenge.cw_traylate_k14_texts_of_no_program_holds
