import PyProof.Rows.All
import Wide.All
import OpenK.AllK
import Wide.FinOn
import KE.KNestM
import KE.KSortedM
import PySem.Challenge.RW_traylate_k27_settled
set_option Elab.async false
set_option linter.all false
set_option maxRecDepth 100000
set_option maxHeartbeats 0
set_option synthInstance.maxSize 100000
set_option synthInstance.maxHeartbeats 0
set_option genSizeOf false
open PySem renaming wpAny_bind→aq,wpAny_pure→aN,sizeLine→aP,FuncData→aV,starEach→cg,NameKind→eQ,mainGlobals→fQ,wpAny_mono→iA,wpAny_field→iH,compareOp→kr,sizeLine_eq→lu,PassesOwn→lM,wpAny_holding→ng,binaryOp→qe,wpAny_call→rE,builtinsNs→rF,wpAny_truthy_bool→sX,wpAny_seqItems→td,wpAny_Call_Name_kw→uI,wpAny_newObj_type→uK,wpAny_loadPart_at→uM,noteFrame→uY,bindArgs→va,wpAny_call_entry→wK,codeAny_mono→wN,bootBuiltins→wO,call_meets→wW,wpAny_callSpecial?_slot→yD,wpAny_passesOwn→yJ,wpAny_setField→yM,wpAny_standAt→yN,wpAny_letGo→yT,sliceBounds→yU,wpAny_setField_rec→Az,wpAny_execs_nil→AD,attributeBase→AH,isInstance→AO,closureFor→AQ,assignEach→AR,treeTable→AX,swapsWith→AY,setFlight→AZ,getMethod→A0,codeAny_handlers_test→C3,wpAny_handleBy_cons→C7,importedModules→Di,recursionLimit→Dk,wpAny_attempt→Dm,keywordEach→Dq,typeLookup→Dt,typeIs_int→Du,compEnvC→DR,backToKw→DS,wpAny_pyIter_list→Hz,foldedSetIterable→HC,letOwnedTupleGo→HL,wpAny_tryCatch→HS,wpAny_loadPart→HU,wpAny_onRaise→HZ,plainId_quiet→Ia,behindInMarks→Ib,wpAny_rule→IL,refuseLoop→IM,seqItems?→Jh,seqIndex?→Ji,ClassData→Jk,plainObj_wpAny_Assign_Attribute→PL,codeAny_handlers_suite_as→PN,wpAny_comprehension_free→PV,wpAny_updateSeq_pair→P2,codeAny_call_builtin→P5,wpAny_isSubtype_exc→P6,wpAny_lookBehind→Qg,pastItsLine_dict→Qh,noFill_tuple_add→Qi,wpAny_updateSeq→Qm,wpAny_loadPart'→Qn,wpAny_newList→Qy,seq_tuple_add→Qz,wpAny_typeOf→QH,wpAny_nsSet1→QI,seqIndex_neg→QJ,concat_meets→QK,wpAny_check_type_call_sub→aam,wpAny_binaryOp_repeat_ref→aan,codeAny_call_builtin_code→aao,codeAny_call_builtin_at→aau,richCompare_meets_room→aax
open Nat renaming le_refl→aF,zero_le→bX,le_trans→cu,le_of_lt→cO,lt_of_lt_of_le→eK,ne_of_lt→eO,lt_irrefl→iQ,le_succ→jq,le_of_eq→qb,lt_of_le_of_lt→rh,ne_of_gt→tf,le_succ_of_le→wJ,lt_succ_self→AA,min_eq_left→AE,beq→Bf,succ_ne_self→Df,succ_le_succ→Dg,lt_trichotomy→HE,le_add_right→HI,succ→JX,lt_of_lt_of_eq→P9,lt_succ_of_lt→Qb,min_eq_right→Qj,zero_add→QM,succ_pos→QN,succ_mul→QO,sub_zero→QP,mul_comm→QQ,add_mul_mod_self_left→aap,lt_or_gt_of_ne→aaR
open Or renaming inl→aR
open List renaming length_map→aX,getElem?_eq_getElem→bb,mem_cons→bq,mem_of_getElem?→cQ,length_append→cX,mem_cons_of_mem→dn,size_toArray→dq,replicate→dw,mem_cons_self→dE,getElem?_eq_some_iff→eJ,length_take→ff,getElem?_map→fw,length_cons→fG,mem_append_right→gg,mem_singleton→gz,take_of_length_le→iE,map_cons→iF,mem_append→jo,map_append→km,take_add_one→lj,getElem?_set_self→mZ,pairwise_iff_getElem→oQ,mem_append_left→oS,getD_eq_getElem?_getD→pY,lookup_cons→pZ,length_set→qa,mem_nil_iff→rj,mem_filter→rm,mem_map→rB,length_eq_zero_iff→sW,append_nil→sY,getElem_of_mem→uH,filter_cons→uO,nil_append→uQ,getElem?_of_mem→wH,length_drop→wL,all_cons→wM,lookup→wR,lookup_cons_self→yE,not_mem_nil→yH,all_eq_true→yI,range_succ→yK,forIn_cons→yL,any_cons→yP,map_map→yR,getElem?_append_right→Au,getElem?_append_left→Aw,getElem?_set_ne→Ax,getElem_mem→AB,mem_range→AF,all_map→AJ,Perm→A6,length_singleton→C4,mem_of_mem_take→C5,replicate_succ→C8,flatMap_append→C9,filterMap_cons→Dc,filter_append→Dd,length_range→De,map_set→Dn,length_filter_le→Hv,mem_filterMap→Hx,flatten_cons→HF,take_length→HJ,nodup_cons→HM,drop_zero→HV,set_set→Iq,foldl→IQ,take_append_of_le_length→PM,mem_or_eq_of_mem_set→PQ,length_eq_one_iff→PZ,getElem?_eq_none→P0,length_zipIdx→P',pairwise_map→Qc,flatMap_cons→Qd,append_assoc→Qe,cons_append→Qk,of_mem_zip→Qp,sum_cons→QA,mem_zipIdx_iff_getElem?→aad,getElem?_zip_eq_some→aaq,getElem?_eq_none_iff→aar,drop_eq_getElem_cons→aas,eq_of_mem_replicate→aat,getElem?_replicate→aav,drop_of_length_le→aay,length_replicate→aaA,mem_of_mem_drop→aaE,zip_cons_cons→aaS,nodup_append→aa5,mem_flatMap→abg,flatMap_nil→abh,ext_getElem→abi
open PySem.Heap renaming get?_push_of_some→bo,lt_size→bJ,get?_push_size→gy,size_push→m8,get?_update_other→qZ,SameBut→tj,get?_update_self→yF,ExtBut→Iz,get?_update_ne→P7,size_after_update→aaz,get?_none_of_le→aaF
open PySem.Value renaming ref→cb,none→iI,int→nh,type→oY,bool→uV,builtin→yO,str→A5,float→QY
open Bool renaming false_ne_true→dh,and_eq_true→fJ,true_and→oU,false_and→rn,false_eq_true→wI,eq_iff_iff→HR,and_false→HW,not_eq_true'→aa7
open Ne renaming symm→dU
open PySem.Str renaming ofString→dZ
open Option renaming some→fU,map_eq_some_iff→Ht,bind_some→HH,isSome_iff_exists→PX
open False renaming elim→gA
open Option.some renaming inj→iz,injEq→HD
open PySem.PyData renaming depth→iT,int→jf,canLayAll0→kj,canLay0→lp,depthAll→lI,strOk→lJ,eqv→tD,eqvAll→AI,list→Iy,tuple→QL
open PyProof.Rows renaming boot_isinstance→jc,boot_list→o7,boot_tuple→uU,slot_tuple_getitem→As,boot_int→Bb,callWith_type1→C0,get?_update_seq→Qo,subscriptTail_builtinR→aaw
open PySem.SeqAt renaming EqAt→jJ,noMixAll→DQ
open Int renaming toNat_natCast→lZ,emod_nonneg→sZ,emod_lt_of_pos→uJ,zero_add→Ir,natCast_nonneg→aaT
open PySem.NameKind renaming free→nQ
open True renaming intro→nS
open PySem.W renaming boot_heap→pd,boot_drawn→IP,boot_toks→Jj
open PySem.Obj renaming mapFields→rq,mapSeq→rG,data_mapFields→yG,isFreed_of_fields→Hu,cls_mapFields→aa4
open PySem.Builtin.SmallTypes renaming nextOf→sV,ownedTupleIsFree→Hm,ownedTupleHandOut→aaa
open Prod renaming mk→tJ
open PySem.PassesOwn renaming never→uP,looking→aa3
open Prod.mk renaming inj→wQ,injEq→acE
open Sum renaming inr→xk,inl→xn
open Array renaming getElem?_eq_some_iff→Av,length_toList→Ay,mk→DT,getD_eq_getD_getElem?→Hn,getD→Rr,getElem?_setIfInBounds_ne→aab,eq_empty_of_size_eq_zero→aac,perm_iff_toList_perm→aal,getElem?_toList→aaC
open LawfulBEq renaming eq_of_beq→A3
open PySem.Fin renaming done→Bc
open PySem.Builtin.Tuple renaming tupleExact→C2,tupleTooMany→aai,tupleItemsOf→aaj
open PySem.W.KasT renaming kasWp_bind→Dj
open PyProof.Rows.IsTup renaming new→DD
open PySem.F renaming slot_tuple_iterator_next→Ho,slot_tuple_mul→HK,slot_zip_next→HP,slot_int_rmul→HQ,args_tuple_iterator_next_1→aae,entry_tuple_iterator_next→aaf,slot_enumerate_next→aaB
open PySem.Builtin.Slice renaming slicePlaces→Hq,sliceAdjust→PR,sliceApplied→aak
open PySem.Builtin.ObjectAttr renaming Found→Hr,bindTo→PU,storeInOwnDict→ap4
open PySem.Builtin.List renaming listTooLong→Hs
open PySem.Heap.SameBut renaming update→Hw
open PySem.Code renaming quiet_builtin→Hy
open ForInStep renaming yield→HN
open Nat.succ renaming inj→Ip
open Except renaming error→Iu,ok→Sm
open Classical renaming propDecidable→PY
open PySem.Around renaming under→QR,under_plainId→aaG,frames_deeper→aaH
open PySem.Shared renaming heap→QZ
open PySem.Walks renaming list→Rq
open PySem.Builtin.Builtins renaming bindParams→aag
open PySem.Calls renaming Name_function_global→aah
open PySem.EntryCells renaming newEntry→aaK
open PySem.SeqAt.EqAt renaming str_int→aaP,int_str→aaQ
open List.Pairwise renaming nil→aa6
open Array.Perm renaming refl→abA
open PySem.Builtin.ObjectAttr.Found renaming missing→ap5,value→ap6,bind→ap7
noncomputable section
theorem dk{p:Prop}(h:p:=by decide +kernel):p:=h
theorem qc{p:Prop}(h:p:=by decide):p:=h
theorem om{p:Prop}(h:p:=by omega):p:=h
theorem li{p:Prop}(h:p:=by lia):p:=h
abbrev zLa:List PySem.Str:=["_law_machine"]
abbrev zLb:List PySem.Str:=["_law_cell","_law_k"]
abbrev zLc:List PySem.Str:=["_law_script","_law_k"]
abbrev zLd:List PySem.Str:=["_law_cell","_law_k","_law_amount"]
abbrev zLe:List PySem.Str:=["_law_cell","_law_amount"]
abbrev zLf:List PySem.Str:=["_law_draw","_law_length","_law_names"]
abbrev zLg:List PySem.Str:=["_law_program_here","_law_kind"]
abbrev zLh:List PySem.Str:=["_law_program_here","_law_cell"]
namespace L2
end L2
namespace L3
end L3
namespace L4
end L4
namespace L5
end L5
namespace L2
open PySem PySem.Spec PyProof.Rows
def inClass(s:Stmt)(j:Nat):Stmt:=match s with
 | .ClassDef _ _ _ body _ _ _ _ _ _ _=>body.getD j (.Pass ⟨0,0,0,0⟩)
 | _=>.Pass ⟨0,0,0,0⟩
def ma(s:Stmt):Arguments:=match s with
 | .FunctionDef _ a _ _ _ _ _ _ _ _=>a
 | _=>{ posonlyargs:=[],args:=[],vararg:=none,kwonlyargs:=[],kw_defaults:=[],kwarg:=none,defaults:=[] }
def hX(s:Stmt):List Stmt:=match s with
 | .FunctionDef _ _ b _ _ _ _ _ _ _=>b
 | _=>[]
def aQ(s:Stmt):Scope:=match s with
 | .FunctionDef _ _ _ _ _ _ sc _ _ _=>sc
 | _=>{ kind:=.function,names:=[],isGenerator:=false,isCoroutine:=false }
end L2
namespace TL
open PySem PySem.Spec PyProof.Rows L2 L3
abbrev mm:Int:=1000000000000000000000000000000000000000000000000000000000000
def top(i:Nat):Stmt:=PySem.Challenge.pw_traylate_k27_settled.main.body.getD i (.Pass ⟨0,0,0,0⟩)
abbrev EC:Stmt:=inClass (top 13) 0
abbrev Bj:Stmt:=top 21
abbrev Be:Stmt:=top 22
abbrev DZ:Stmt:=top 23
abbrev Kh:Stmt:=top 24
abbrev EB:Stmt:=inClass (top 14) 0
abbrev ED:Stmt:=inClass (top 15) 0
abbrev EA:Stmt:=inClass (top 16) 0
abbrev Eh:Stmt:=inClass (top 17) 0
abbrev Ef:Stmt:=inClass (top 18) 0
abbrev Eg:Stmt:=inClass (top 20) 0
end TL
namespace L2
open PySem
abbrev WO:Addr:=87
end L2
namespace L2
open PySem PySem.Spec PyProof.Rows L3
open Sem (wp)
abbrev vE:List Value:=[.type "ValueError",.type "Exception",.type "BaseException",.type "object"]
end L2
namespace TL
open PySem PySem.Spec PyProof.Rows L2 L3
abbrev Kd:Stmt:=top 21
abbrev BW:Stmt:=inClass (top 32) 0
abbrev L6:Stmt:=inClass (top 32) 1
abbrev Jv:Stmt:=inClass (top 32) 2
abbrev DI:Stmt:=inClass (top 32) 3
abbrev KY:Stmt:=inClass (top 32) 4
abbrev Kf:Stmt:=inClass (top 32) 5
abbrev Ju:Stmt:=inClass (top 32) 6
abbrev Ke:Stmt:=top 33
end TL
namespace TL
open PySem PySem.Spec PyProof.Rows PySem.SeqAt L2 L3
abbrev KW:Stmt:=inClass (top 32) 7
end TL
namespace L2
open PySem PySem.Spec PyProof.Rows
abbrev i3:String:="BaseException.__getattribute__"
end L2
namespace L2
open PySem PySem.Spec PyProof.Rows L3
def rK:List Value->Bool
 | .ref _::r=>rK r
 | .type a::r=>a == "ValueError" && (r == [.type "Exception",.type "BaseException",.type "object"])
 | _=>false
def LI(K:W.Frag)(C:Addr)(bmB:List Value)(newId:String):Bool:=
 match wR C K with
 | some { cls:=oY "type",dict:=_,data:=Data.cls cd,slots:=sl }=>
  match cd.mro,sl.toList with
  | cb C'::bm,[_,_,_,_,some (yO n),_]=>C' == C&&n == newId && !cd.hasDel&&W.tailIn K bmB bm&&W.nsOkIn K cd.ns
  | _,_=>false
 | _=>false
end L2
namespace TL
open PySem PySem.Spec PyProof.Rows PySem.SeqAt L2 L3
abbrev MO:Stmt:=inClass (top 5) 0
abbrev MR:Stmt:=top 27
abbrev Ma:Stmt:=top 28
abbrev IW:Stmt:=top 29
end TL
namespace TL
open PySem PySem.Spec PyProof.Rows PySem.SeqAt L2 L3 L4
abbrev Ei:Stmt:=inClass (top 13) 5
abbrev Dx:Stmt:=inClass (top 18) 3
abbrev Dr:Stmt:=inClass (top 19) 0
abbrev Bk:Stmt:=inClass (top 38) 0
abbrev Lh:Stmt:=inClass (top 38) 1
abbrev La:Stmt:=inClass (top 38) 2
abbrev JA:Stmt:=inClass (top 38) 3
abbrev Kl:Stmt:=inClass (top 38) 4
abbrev MP:Stmt:=inClass (top 38) 5
abbrev Ko:Stmt:=inClass (top 38) 6
abbrev Ld:Stmt:=inClass (top 38) 7
abbrev Kq:Stmt:=inClass (top 38) 8
abbrev Kn:Stmt:=inClass (top 38) 9
abbrev Lf:Stmt:=inClass (top 38) 10
abbrev Mb:Stmt:=inClass (top 38) 11
abbrev Jy:Stmt:=inClass (top 38) 12
abbrev KU:Stmt:=inClass (top 38) 15
abbrev IB:Stmt:=inClass (top 38) 16
abbrev IC:Stmt:=inClass (top 38) 17
abbrev Jt:Stmt:=inClass (top 38) 18
abbrev Lg:Stmt:=inClass (top 38) 19
abbrev Le:Stmt:=inClass (top 38) 20
abbrev L8:Stmt:=inClass (top 38) 23
abbrev Jw:Stmt:=top 35
abbrev Kr:Stmt:=top 40
abbrev KZ:Stmt:=top 41
abbrev MN:Stmt:=top 44
abbrev Bm:Stmt:=top 45
abbrev Kg:Stmt:=top 42
abbrev L7:Stmt:=top 43
abbrev L':Stmt:=top 36
abbrev Ig:Stmt:=top 37
abbrev Ki:Stmt:=top 46
abbrev Kj:Stmt:=inClass (top 38) 13
abbrev Lc:Stmt:=inClass (top 38) 24
abbrev Jx:Stmt:=top 47
abbrev Lb:Stmt:=top 48
abbrev BJ:Stmt:=top 49
abbrev qy:Stmt:=top 50
end TL
namespace HT
open PySem PySem.W
def DV(tb:String->Option Builtin)(p:Program)(w:World)(n₀:Nat)(ann:Option Value):Nat->SharedT->Thread->Option SharedT
 | 0,_,_=>none
 | n+1,s,t=>match through t with
  | true=>some s
  | false=>match stepOk n₀ ann t with
   | false=>none
   | true=>match stepT (denote tb) p w s t with
    | some (s',t')=>DV tb p w n₀ ann n s' t'
    | none=>none
theorem Q1{tb:String->Option Builtin}{p:Program}{w:World}{n₀:Nat}{ann:Option Value}:∀{n:Nat} {s s':SharedT} {t:Thread},DV tb p w n₀ ann n s t=some s'->topRun tb p w n₀ ann n s.abs t=some s'.abs
 | 0,_,_,_,h=>by cases h
 | n+1,s,s',t,h=>by
  unfold DV at h;unfold topRun;cases he:through t with
  | true=>rw[he]at h;cases h;rfl
  | false=>
   rw[he]at h;cases hk:stepOk n₀ ann t with
   | false=>rw[hk]at h;cases h
   | true=>
    rw[hk]at h;cases hs:stepT (denote tb) p w s t with
    | none=>rw[hs]at h;cases h
    | some r=>obtain⟨s₂,t₂⟩:=r;rw[hs]at h;rw[stepT_spec hs];exact Q1 h
def Ts:List Obj->Nat->BT->BT
 | [],_,t=>t
 | o::r,i,t=>Ts r (i+1) (t.ins i o)
def Mw(P:Params):BT:=Ts (pd P).objs.toList 0 .nil
def BB(P:Params):Nat:=(pd P).objs.size
def Mx(P:Params):Life:=(pd P).life
def amP(P:Params):Option Value:=(pd P).nsMap fQ "__annotations__"
theorem boot_abs(P:Params):absHeap (Mw P) (BB P) (Mx P)=pd P:=by kernel_rfl
theorem ajW(P:Params):((pd P).isNs fQ,(pd P).objs.size)=(true,BB P):=by kernel_rfl
def UN(P:Params)(os:OsState):SharedT:=⟨Mw P,BB P,Mx P,#[],IP,Jj,os⟩
def nG(p:Program)(w:World)(N:Nat)(os:OsState):Option SharedT:=DV AX p w (BB w.params) (amP w.params) N (UN w.params os) (topStub p)
def held(p:Program)(P:Params)(s:Shared):Bool:=staticsOk (Di p.main.body) (pd P) s.heap&&namesBound p s.heap&&gensDone s&&laidKept (pd P) s.heap
theorem both{α β γ:Type}{o:Option α}{f:α->β}{g:α->γ}{b:β}{c:γ}(h1:o.map f=some b)(h2:o.map g=some c):o.map (λs=>(f s,g s))=some (b,c):=by
 cases o with
 | none=>cases h1
 | some s=>cases h1;cases h2;rfl
theorem adJ{p:Program}{w:World}{N:Nat}{s₀ s₁:Shared}(a:(s₀.heap.isNs fQ&&s₀.gens.size == 0)=true)(r:topRun AX p w s₀.heap.objs.size (s₀.heap.nsMap fQ "__annotations__") N s₀ (topStub p)=some s₁)
  (b:(staticsOk (Di p.main.body) s₀.heap s₁.heap&&namesBound p s₁.heap&&gensDone s₁&&laidKept s₀.heap s₁.heap)=true):topFrom AX p w N s₀=some s₁:=by
 unfold topFrom;rw[a];dsimp only;rw[r];dsimp only[Option.bind];rw[b]
theorem aiQ{p q:Program}{loose:List Str}{Xt:Shared->Bool}{α:Type}{Yf:Shared->α}{Ya:World->α}{N:Nat}(e:opening p=plainProg p.main.scope.names)(hN:Nat.ble 600 N=true)(f:∀s,fenceModules? p s=some s)
  (run:∀(w:World) (os:OsState),(nG p w N os).map (λs=>(held p w.params s.abs,(openSeen q loose (Di p.main.body) Xt true s.abs,Yf s.abs)))=some (true,(openGood q loose,Ya w))):LeftO p q loose Xt Yf Ya N:=λw=>by
 obtain⟨⟨h,gs,d,k,os⟩,e1,e'⟩:=Ht.mp (boot_open e hN f w);obtain⟨rfl,rfl,rfl,rfl⟩:h=pd w.params/\gs=DT []/\d=IP/\k=Jj:=by simpa using e'
 obtain⟨s₁,r,l⟩:=Ht.mp (run w os);obtain⟨l1,l2⟩:=wQ l;obtain⟨z1,z2⟩:=wQ (ajW w.params);have r':=Q1 r
 have ea:(UN w.params os).abs=⟨pd w.params,DT [],IP,Jj,os⟩:=by
  show (⟨absHeap (Mw w.params) (BB w.params) (Mx w.params),_,_,_,_⟩:Shared)=_;rw[boot_abs];rfl
 rw[ea]at r';have t:topFrom AX p w N ⟨pd w.params,DT [],IP,Jj,os⟩=some s₁.abs:=adJ (by rw[z1];rfl) (by show topRun AX p w (pd w.params).objs.size _ N _ _=_;rw[z2];exact r') l1;unfold openEnds;rw[e1];show (topFrom AX p w N _).map _=_;rw[t];exact congrArg some l2
end HT
namespace HT
open PySem PySem.W PyProof.Rows
theorem E8{α β γ:Type}{o:Option α}{f:α->β}{g:α->γ}{b:β}{c:γ}(h:o.map (λs=>(f s,g s))=some (b,c)):o.map f=some b:=by
 cases o with
 | none=>cases h
 | some s=>
  have h':(f s,g s)=(b,c):=iz h;exact congrArg some (wQ h').1
theorem BI{α β γ:Type}{o:Option α}{f:α->β}{g:α->γ}{b:β}{c:γ}(h:o.map (λs=>(f s,g s))=some (b,c)):o.map g=some c:=by
 cases o with
 | none=>cases h
 | some s=>
  have h':(f s,g s)=(b,c):=iz h;exact congrArg some (wQ h').2
theorem ahY{p q:Program}{w:World}{N:Nat}{os:OsState}{loose mods:List Str}{Xt:Shared->Bool}
  (h3:(nG p w N os).map (λs=>s.abs.heap.keysOk (looseW q loose) ((recsOf q).map (·.name)) ((litsOf q).map (·.1)) ((clssOf q (looseW q loose)).map (·.name))&&s.abs.heap.accountedOkI mods&&s.abs.heap.isNs fQ&&s.abs.heap.isNs rF&&tablesOk q s.abs.heap&&Xt s.abs&&(s.abs.gens.size == 0))=some true)
  (h1:(nG p w N os).map (λs=>(seen ((recsOf q).map (·.name)) (ownsOf q) [] { heap:=s.abs.heap,drawn:=s.abs.drawn,toks:=s.abs.toks,os:=s.abs.os },s.abs.heap.bltView))=some (expectedOf q,bltViewBooted))
  (h4:(nG p w N os).map (λs=>(tabsOk q s.abs,(pinSeenD q (drecsOf q) s.abs,(plainSeenE q (looseW q loose) s.abs,(plainSeenD q loose s.abs,(wideSeen q s.abs,clsSeenW q loose s.abs))))))=some (true,(pinGoodD (drecsOf q),(plainGoodE q (looseW q loose),(plainGoodD q loose,(wideGood q,clsGoodW q loose)))))) :
  (nG p w N os).map (λs=>openSeen q loose mods Xt true s.abs)=some (openGood q loose):=by
 have a:=both (E8 h1) (both (BI h1) (both h3 h4));exact a
end HT
namespace HT
open PySem PySem.W
theorem Ku{g:Addr->Option Obj}{a:Addr}{o:Obj}:∀l:List Addr,(l.filterMap λa=>(g a).map λo=>(a,o)).lookup a=some o->g a=some o
 | [],h=>by cases h
 | b::r,h=>by
  rw[Dc]at h;cases e:g b with
  | none=>rw[e]at h;exact Ku r h
  | some x=>
   rw[e]at h;dsimp only[Option.map]at h;rw[pZ]at h;cases q:a == b with
   | true=>rw[q]at h;cases h;rw[beq_iff_eq.mp q];exact e
   | false=>rw[q]at h;exact Ku r h
def rf:Option (Option Value)->Addr
 | some (some (.ref a))=>a
 | _=>0
def Fz:Option (Option Value)->Bool
 | some (some (.ref _))=>true
 | _=>false
theorem jP{o:Option (Option Value)}(h:Fz o=true):o=some (some (.ref (rf o))):=by
 unfold Fz at h
 split at h
 ·rfl
 ·cases h
def xQ(o:Option (Option Value))(n:Int):Bool:=match o with
 | some (some (.int m _))=>decide (m=n)
 | _=>false
theorem Bv{o:Option (Option Value)}{n:Int}(h:xQ o n=true):∃t,o=some (some (.int n t)):=by
 unfold xQ at h
 split at h
 ·rename_i m t;exact⟨t,by rw[of_decide_eq_true h]⟩
 ·cases h
def NR(o:Option CFound)(f:Addr):Bool:=match o with
 | some (.val (.ref a))=>Bf a f
 | _=>false
theorem ak3{o:Option CFound}{f:Addr}(h:NR o f=true):o=some (.val (.ref f)):=by
 unfold NR at h
 split at h
 ·rw[Nat.eq_of_beq_eq_true h]
 ·cases h
abbrev qI:=Str×Str×Arguments×FuncBody×Scope×Addr×List (Str×Addr)×Value×Addr
def br(K:Frag)(f:Addr):Option qI:=match K.lookup f with
 | some ⟨_,_,.func d,_⟩=>some (d.name,d.qualname,d.params,d.body,d.scope,d.globals,d.closure,d.defaults,d.builtins)
 | _=>none
def codeOk(K:Frag)(f:Addr)(q:Str):Bool:=match K.lookup f with
 | some ⟨_,_,.func d,_⟩=>codeIn K d.code q
 | _=>false
theorem tT{K:Frag}{f:Addr}{n q q':Str}{A:Arguments}{B:List Stmt}{S:Scope}(h:br K f=some (n,q,A,.stmts B,S,fQ,[],.none,rF))(hc:codeOk K f q'=true) :
  ∃(oc:Value) (od:Option Addr) (kV dc pm:Value) (an:Option Addr) (cd ct:Value) (sl:Array (Option Value)),K.lookup f=some ⟨oc,od,.func (fnOf n q A B S .none kV dc pm an cd ct),sl⟩/\codeIn K cd q'=true:=by
 unfold br at h;unfold codeOk at hc
 split at h
 ·rename_i oc od d sl e
  rw[e]at hc;obtain⟨d1,d2,d3,d4,d5,d6,d7,d8,d9,d10,d11,d12,d13,d14,d15⟩:=d;simp only[HD,acE]at h;obtain⟨rfl,rfl,rfl,rfl,rfl,rfl,rfl,rfl,rfl⟩:=h;exact⟨oc,od,_,_,_,_,_,_,sl,e,hc⟩
 ·cases h
def E9(K:Frag)(f:Addr):Option qI:=match K.lookup f with
 | some ⟨_,_,.func d,_⟩=>some (d.name,d.qualname,d.params,d.body,d.scope,d.globals,d.closure,.none,d.builtins)
 | _=>none
def Fb(K:Frag)(f:Addr)(x:Str):Bool:=match K.lookup f with
 | some ⟨_,_,.func d,_⟩=>(match d.defaults with
  | .ref T=>(match K.lookup T with
   | some ⟨_,_,.seq ak _,_⟩=>(match ak.toList with
    | [.str y _]=>decide (y=x)
    | _=>false)
   | _=>false)
  | _=>false)
 | _=>false
theorem ala{K:Frag}{f:Addr}{n q q' x:Str}{A:Arguments}{B:List Stmt}{S:Scope}(h:E9 K f=some (n,q,A,.stmts B,S,fQ,[],.none,rF))(hc:codeOk K f q'=true)(hd:Fb K f x=true) :
  ∃(oc:Value) (od:Option Addr) (T:Addr) (kV dc pm:Value) (an:Option Addr) (cd ct:Value) (sl:Array (Option Value)) (c1:Value) (d1:Option Addr) (n1:Nat) (sG:Array (Option Value)) (tk:Nat),K.lookup f=some ⟨oc,od,.func (fnOf n q A B S (.ref T) kV dc pm an cd ct),sl⟩/\codeIn K cd q'=true/\K.lookup T=some ⟨c1,d1,.seq #[.str x tk] n1,sG⟩:=by
 unfold E9 at h;unfold codeOk at hc;unfold Fb at hd
 split at h
 ·rename_i oc od d sl e
  rw[e]at hc hd;obtain⟨d1,d2,d3,d4,d5,d6,d7,d8,d9,d10,d11,d12,d13,d14,d15⟩:=d;simp only[HD,acE]at h;obtain⟨rfl,rfl,rfl,rfl,rfl,rfl,rfl,_,rfl⟩:=h;cases d8 with
  | ref T=>
   have hd:(match K.lookup T with
    | some ⟨_,_,.seq ak _,_⟩=>(match ak.toList with
     | [.str y _]=>decide (y=x)
     | _=>false)
    | _=>false)=true:=hd
   split at hd
   ·rename_i c1 dd1 ak n1 sG e1
    split at hd
    ·rename_i y tk ei
     rw[of_decide_eq_true hd]at ei
     have apu:ak=#[.str x tk]:=by
      have:=congrArg List.toArray ei;simpa using this
     rw[apu]at e1;exact⟨oc,od,T,_,_,_,_,_,_,sl,c1,dd1,n1,sG,tk,e,hc,e1⟩
    ·cases hd
   ·cases hd
  | _=>cases hd
 ·cases h
def vx(h:Heap)(as:List Addr)(T:Addr):Frag:=as.filterMap λa=>(if Bf a T=true then none else h.get? a).map λo=>(a,o)
theorem Rf{h:Heap}{as:List Addr}{T a:Addr}{o:Obj}(e:(vx h as T).lookup a=some o):a≠T/\h.get? a=some o:=by
 have z:=Ku (g:=λa=>if Bf a T=true then none else h.get? a) _ e
 by_cases y:Bf a T=true
 ·rw[if_pos y]at z;cases z
 ·rw[if_neg y]at z;exact⟨λq=>y (by rw[q];exact Nat.beq_refl T),z⟩
theorem ag0(h:Heap)(as:List Addr)(T:Addr):(vx h as T).In h:=λ_ _ e=>(Rf e).2
theorem agZ(h:Heap)(as:List Addr)(T:Addr):(vx h as T).lookup T=none:=by
 cases e:(vx h as T).lookup T with
 | none=>rfl
 | some o=>exact absurd rfl (Rf e).1
def gT(s:SharedT)(a:Addr):Option Obj:=match Nat.ble (a+1) s.n with
 | true=>alive ((s.tree.get a).getD default)
 | false=>none
theorem V5(s:SharedT)(a:Addr):s.abs.heap.get? a=gT s a:=by
 show (absHeap s.tree s.n s.life).get? a=gT s a;unfold gT;cases h:Nat.ble (a+1) s.n with
 | true=>
  have h1:a<s.n:=Nat.le_of_ble_eq_true h;unfold Heap.get?;rw[absHeap_at,if_pos h1];generalize (s.tree.get a).getD default=o;show (match some o with | some ⟨_,_,.freed,_⟩=>none | o=>o)=alive o;obtain⟨c,d,dt,sl⟩:=o;cases dt <;> rfl
 | false=>exact abs_get_none λz=>by rw[Nat.ble_eq_true_of_le (show a+1<=s.n from z)]at h;cases h
def zw(s:SharedT)(as:List Addr)(T:Addr):Frag:=as.filterMap λa=>match Bf a T with
 | true=>none
 | false=>(gT s a).map λo=>(a,o)
theorem agY(s:SharedT)(as:List Addr)(T:Addr):vx s.abs.heap as T=zw s as T:=by
 unfold vx zw
 congr 1
 funext a
 rw[V5];cases Bf a T <;> rfl
def xw:Option Obj->Bool
 | some ⟨.none,none,.fields vs,sl⟩=>vs.size == 0&&sl.size == 0
 | _=>false
theorem agQ{o:Option Obj}(h:xw o=true):o=some (tabObj #[]):=by
 unfold xw at h
 split at h
 ·rename_i vs sl
  rw[fJ]at h;have e1:vs=#[]:=aac (beq_iff_eq.mp h.1);have e2:sl=#[]:=aac (beq_iff_eq.mp h.2);subst e1;subst e2;rfl
 ·cases h
def tP(as:List Addr)(T:Addr)(obs:Frag->Bool×List (Option qI))(val:Bool×List (Option qI)):Hook:=
 ⟨Bool×(Bool×List (Option qI)),λs=>(xw (s.heap.get? T),obs (vx s.heap as T)),λ_=>(true,val),λ_ h=>∃K:Frag,K.In h/\K.lookup T=none/\h.get? T=some (tabObj #[])/\obs K=val,λ_ s e=>⟨_,ag0 s.heap as T,agZ _ _ _,agQ (wQ e).1,(wQ e).2⟩,λ_ _ _ ⟨K,a,n,t,b⟩ k=>⟨K,a.keeps k,n,k _ _ t,b⟩⟩
theorem akR{as:List Addr}{T:Addr}{obs:Frag->Bool×List (Option qI)}{val:Bool×List (Option qI)}{o:Option SharedT}(h1:o.map (λs=>xw (gT s T))=some true)(h2:o.map (λs=>obs (zw s as T))=some val):o.map (λs=>(tP as T obs val).obs s.abs)=some (true,val):=by
 have e:(λs:SharedT=>(tP as T obs val).obs s.abs)=λs=>(xw (gT s T),obs (zw s as T)):=by
  funext s
  show (xw (s.abs.heap.get? T),obs (vx s.abs.heap as T))=_;rw[V5,agY]
 rw[e];exact both h1 h2
def vR:Value->Addr
 | .ref q=>q
 | _=>0
def vB:Value->Bool
 | .ref _=>true
 | _=>false
theorem alZ{v:Value}(h:vB v=true):v=.ref (vR v):=by cases v <;> first | rfl | cases h
def zF(K:Frag)(f:Addr):Addr:=match K.lookup f with
 | some ⟨_,_,.func d,_⟩=>vR d.code
 | _=>0
def Fc(K:Frag)(f:Addr):Bool:=match K.lookup f with
 | some ⟨_,_,.func d,_⟩=>vB d.code
 | _=>false
theorem alc{K:Frag}{f:Addr}{n q q':Str}{A:Arguments}{B:List Stmt}{S:Scope}(h:br K f=some (n,q,A,.stmts B,S,fQ,[],.none,rF))(hc:codeOk K f q'=true)(hr:Fc K f=true) :
  ∃(oc:Value) (od:Option Addr) (kV dc pm:Value) (an:Option Addr) (ct:Value) (sl:Array (Option Value)),K.lookup f=some ⟨oc,od,.func (fnOf n q A B S .none kV dc pm an (.ref (zF K f)) ct),sl⟩/\codeIn K (.ref (zF K f)) q'=true:=by
 obtain⟨oc,od,kV,dc,pm,an,cd,ct,sl,e,c⟩:=tT h hc
 have e2:cd=.ref (zF K f):=by
  unfold Fc at hr;unfold zF;rw[e]at hr ⊢;exact alZ hr
 rw[e2]at e c;exact⟨oc,od,kV,dc,pm,an,ct,sl,e,c⟩
def rH:List Value->List Str->Bool
 | [],[]=>true
 | .str y _::us,x::xs=>decide (y=x)&&rH us xs
 | _,_=>false
def tupS(K:Frag)(a:Addr)(xs:List Str):Bool:=match K.lookup a with
 | some ⟨.type "tuple",_,.seq ak _,_⟩=>rH ak.toList xs
 | _=>false
end HT
namespace TL
open PySem PySem.Spec PyProof.Rows PySem.SeqAt L2 L3
def gN(K:W.Frag)(x:Str):Addr:=HT.rf (W.nsIn K fQ x)
def gM(K:W.Frag)(c:Addr)(x:Str):Addr:=HT.rf (W.findIn K (.ref c) x)
abbrev rN(K:W.Frag)(x:Str):Prop:=HT.Fz (W.nsIn K fQ x)=true
abbrev zN(K:W.Frag)(x:Str):Prop:=W.nsIn K fQ x=some none
abbrev no(K:W.Frag)(c:Addr)(x:Str):Prop:=W.findIn K (.ref c) x=some none
abbrev fN(K:W.Frag)(x:Str):Prop:=rN K x/\HT.codeOk K (gN K x) x=true/\W.keepIn K (.ref (gN K x))=true
abbrev fM(K:W.Frag)(c:Addr)(m q:Str):Prop:=HT.Fz (W.findIn K (.ref c) m)=true/\HT.codeOk K (gM K c m) q=true/\W.keepIn K (.ref (gM K c m))=true/\W.isFn K (.ref (gM K c m))=true
abbrev cK(K:W.Frag)(x:Str):Prop:=rN K x/\W.plainGet K (gN K x) Str.empty=true/\W.hasDictIn K (gN K x)=true/\W.plainOver K (gN K x)=true/\W.findIn K (.ref (gN K x)) "__setattr__" = some (some (.builtin "object.__setattr__"))
abbrev mK(K:W.Frag)(c:Addr):Prop:=W.makesIn K c=true/\W.keepIn K (.ref c)=true
abbrev xF(K:W.Frag)(x e:Addr):Prop:=W.excIn K x vE "ValueError.__new__" = true/\W.keepIn K (.ref x)=true/\W.kitCls K (.ref x) (.ref x)=some true/\W.kitCls K (.ref x) (.type "BaseException")=some true/\W.kitOne K (.ref x) (.ref e)=some true/\W.kitOne K (.ref x) (.type "ValueError")=some true
def fp(n q:Str)(st:Stmt):Option HT.qI:=some (n,q,ma st,.stmts (hX st),aQ st,fQ,[],.none,rF)
abbrev ER(K:W.Frag):Addr:=gN K "TrayError"
abbrev amW(K:W.Frag):Addr:=gN K "NoStep"
abbrev amX(K:W.Frag):Addr:=gN K "NoMove"
abbrev pE(K:W.Frag):Addr:=gN K "NoKind"
abbrev pD(K:W.Frag):Addr:=gN K "NoClerks"
abbrev jz(K:W.Frag):Addr:=gN K "NoProgram"
abbrev tI(K:W.Frag):Addr:=gN K "Step"
abbrev ic(K:W.Frag):Addr:=gN K "Put"
abbrev ie(K:W.Frag):Addr:=gN K "Add"
abbrev ib(K:W.Frag):Addr:=gN K "Set"
abbrev ia(K:W.Frag):Addr:=gN K "Look"
abbrev hY(K:W.Frag):Addr:=gN K "Swap"
abbrev hZ(K:W.Frag):Addr:=gN K "Skip"
abbrev l6(K:W.Frag):Addr:=gN K "Clear"
abbrev eL(K:W.Frag):Addr:=gN K "Tray"
abbrev b9(K:W.Frag):Addr:=gN K "Machine"
abbrev Tr(K:W.Frag):Addr:=gN K "KINDS"
abbrev WU(K:W.Frag):Addr:=gN K "is_whole"
abbrev WY(K:W.Frag):Addr:=gN K "bounds_of"
abbrev WV(K:W.Frag):Addr:=gN K "is_step"
abbrev WW(K:W.Frag):Addr:=gN K "step_of"
abbrev zI(K:W.Frag):Addr:=gM K (tI K) "__init__"
abbrev LR(K:W.Frag):Addr:=gM K (ic K) "__init__"
abbrev LU(K:W.Frag):Addr:=gM K (ie K) "__init__"
abbrev LO(K:W.Frag):Addr:=gM K (ib K) "__init__"
abbrev KJ(K:W.Frag):Addr:=gM K (ia K) "__init__"
abbrev KH(K:W.Frag):Addr:=gM K (hY K) "__init__"
abbrev KI(K:W.Frag):Addr:=gM K (hZ K) "__init__"
abbrev pF(K:W.Frag):Addr:=gM K (tI K) "empties"
abbrev UE(K:W.Frag):Addr:=gM K (hY K) "empties"
abbrev UG(K:W.Frag):Addr:=gM K (l6 K) "empties"
abbrev ane(K:W.Frag):Addr:=gN K "has_clerks"
abbrev anf(K:W.Frag):Addr:=gN K "fits"
abbrev anb(K:W.Frag):Addr:=gN K "look_over"
abbrev Wc(K:W.Frag):Addr:=gM K (eL K) "__init__"
abbrev am4(K:W.Frag):Addr:=gM K (eL K) "add"
abbrev am1(K:W.Frag):Addr:=gM K (eL K) "latest"
abbrev MC(K:W.Frag):Addr:=gM K (eL K) "fronts"
abbrev amZ(K:W.Frag):Addr:=gM K (eL K) "take"
abbrev am2(K:W.Frag):Addr:=gM K (eL K) "is_empty"
abbrev am3(K:W.Frag):Addr:=gM K (eL K) "listed"
abbrev amY(K:W.Frag):Addr:=gM K (eL K) "twin"
abbrev am0(K:W.Frag):Addr:=gN K "tray_of"
abbrev LS(K:W.Frag):Addr:=gM K (b9 K) "__init__"
abbrev anp(K:W.Frag):Addr:=gM K (b9 K) "at_end"
abbrev am9(K:W.Frag):Addr:=gM K (b9 K) "may_do"
abbrev anm(K:W.Frag):Addr:=gM K (b9 K) "carries"
abbrev ana(K:W.Frag):Addr:=gM K (b9 K) "moves"
abbrev anj(K:W.Frag):Addr:=gM K (b9 K) "do"
abbrev ani(K:W.Frag):Addr:=gM K (b9 K) "do_step"
abbrev anh(K:W.Frag):Addr:=gM K (b9 K) "do_set"
abbrev ank(K:W.Frag):Addr:=gM K (b9 K) "do_look"
abbrev ang(K:W.Frag):Addr:=gM K (b9 K) "do_swap"
abbrev anl(K:W.Frag):Addr:=gM K (b9 K) "carry"
abbrev ano(K:W.Frag):Addr:=gM K (b9 K) "come"
abbrev am8(K:W.Frag):Addr:=gM K (b9 K) "on_board"
abbrev am6(K:W.Frag):Addr:=gM K (b9 K) "settle"
abbrev am'(K:W.Frag):Addr:=gM K (b9 K) "twin"
abbrev Wb(K:W.Frag):Addr:=gM K (b9 K) "where"
abbrev Wd(K:W.Frag):Addr:=gM K (b9 K) "steps_done"
abbrev We(K:W.Frag):Addr:=gM K (b9 K) "registers"
abbrev Wa(K:W.Frag):Addr:=gM K (b9 K) "waiting"
abbrev Wh(K:W.Frag):Addr:=gM K (b9 K) "board"
abbrev Wg(K:W.Frag):Addr:=gM K (b9 K) "deeds"
abbrev Wf(K:W.Frag):Addr:=gM K (b9 K) "over"
abbrev am7(K:W.Frag):Addr:=gN K "place_behind"
abbrev anc(K:W.Frag):Addr:=gN K "has_form_of_move"
abbrev am5(K:W.Frag):Addr:=gN K "steps_of"
abbrev alE(K:W.Frag):Addr:=gM K (jz K) "__init__"
abbrev alP(K:W.Frag):Addr:=gN K "_law_cell_at"
abbrev alN(K:W.Frag):Addr:=gN K "_law_mixed"
abbrev alG(K:W.Frag):Addr:=gN K "_law_stream"
abbrev alL(K:W.Frag):Addr:=gN K "_law_pick"
abbrev alM(K:W.Frag):Addr:=gN K "_law_one"
abbrev alK(K:W.Frag):Addr:=gN K "_law_program"
abbrev alI(K:W.Frag):Addr:=gN K "_law_stand"
abbrev alH(K:W.Frag):Addr:=gN K "_law_settles"
abbrev alO(K:W.Frag):Addr:=gN K "_law_made"
abbrev alJ(K:W.Frag):Addr:=gN K "_law_refused"
abbrev alF(K:W.Frag):Addr:=gN K "law"
set_option synthInstance.maxSize 100000
set_option synthInstance.maxHeartbeats 0
abbrev d9(p:Prop)[Decidable p]:Bool:=decide p
def NK(K:W.Frag)(_:Unit):List Bool:=[d9 (rN K "TrayError"),d9 (rN K "NoStep"),d9 (xF K (amW K) (ER K)),d9 (rN K "NoMove"),d9 (xF K (amX K) (ER K)),d9 (rN K "NoKind"),d9 (xF K (pE K) (ER K)),d9 (rN K "NoClerks"),d9 (xF K (pD K) (ER K)),d9 (rN K "NoProgram"),d9 (cK K "Step"),d9 (cK K "Put"),d9 (mK K (ic K)),d9 (no K (ic K) "parts"),d9 (no K (ic K) "reg"),d9 (no K (ic K) "number"),d9 (cK K "Add"),d9 (mK K (ie K)),d9 (no K (ie K) "parts"),d9 (no K (ie K) "reg"),d9 (no K (ie K) "other"),d9 (cK K "Set"),d9 (mK K (ib K)),d9 (no K (ib K) "parts"),d9 (no K (ib K) "name"),d9 (no K (ib K) "reg"),d9 (cK K "Look"),d9 (mK K (ia K)),d9 (no K (ia K) "parts"),d9 (no K (ia K) "reg"),d9 (no K (ia K) "name"),d9 (cK K "Swap"),d9 (mK K (hY K)),d9 (no K (hY K) "parts"),d9 (no K (hY K) "reg"),d9 (no K (hY K) "name"),d9 (cK K "Skip"),d9 (mK K (hZ K)),d9 (no K (hZ K) "parts"),d9 (no K (hZ K) "reg"),d9 (no K (hZ K) "place"),d9 (cK K "Clear"),d9 (mK K (l6 K)),d9 (no K (l6 K) "parts"),d9 (cK K "Tray"),d9 (mK K (eL K)),d9 (no K (eL K) "kind"),d9 (no K (eL K) "turn"),d9 (no K (eL K) "queues"),d9 (cK K "Machine"),d9 (mK K (b9 K)),d9 (no K (b9 K) "trays"),d9 (no K (b9 K) "program"),d9 (no K (b9 K) "kind"),d9 (no K (b9 K) "steps"),d9 (no K (b9 K) "places"),d9 (no K (b9 K) "counts"),d9 (no K (b9 K) "regs"),d9 (no K (b9 K) "cells"),d9 (no K (b9 K) "acts"),d9 (no K (b9 K) "comers"),d9 (fN K "is_whole"),d9 (fN K "bounds_of"),d9 (fN K "is_step"),d9 (fN K "step_of"),d9 (fM K (tI K) "__init__" "Step.__init__"),d9 (fM K (ic K) "__init__" "Put.__init__"),d9 (fM K (ie K) "__init__" "Add.__init__"),d9 (fM K (ib K) "__init__" "Set.__init__"),d9 (fM K (ia K) "__init__" "Look.__init__"),d9 (fM K (hY K) "__init__" "Swap.__init__"),d9 (fM K (hZ K) "__init__" "Skip.__init__"),d9 (fM K (tI K) "empties" "Step.empties"),d9 (fM K (hY K) "empties" "Swap.empties"),d9 (fM K (l6 K) "empties" "Clear.empties"),d9 (fN K "has_clerks"),d9 (fN K "fits"),d9 (fN K "look_over"),d9 (fM K (eL K) "__init__" "Tray.__init__"),d9 (fM K (eL K) "add" "Tray.add"),d9 (fM K (eL K) "latest" "Tray.latest"),d9 (fM K (eL K) "fronts" "Tray.fronts"),d9 (HT.Fc K (MC K)=true),d9 (W.codeHdIn K (HT.zF K (MC K)) 406=true),d9 (fM K (eL K) "take" "Tray.take"),d9 (fM K (eL K) "is_empty" "Tray.is_empty"),d9 (fM K (eL K) "listed" "Tray.listed"),d9 (fM K (eL K) "twin" "Tray.twin"),d9 (fN K "tray_of"),d9 (fM K (b9 K) "__init__" "Machine.__init__"),d9 (HT.Fb K (LS K) "row" = true),d9 (fM K (b9 K) "at_end" "Machine.at_end"),d9 (fM K (b9 K) "may_do" "Machine.may_do"),d9 (fM K (b9 K) "carries" "Machine.carries"),d9 (fM K (b9 K) "moves" "Machine.moves"),d9 (fM K (b9 K) "do" "Machine.do"),d9 (fM K (b9 K) "do_step" "Machine.do_step"),d9 (fM K (b9 K) "do_set" "Machine.do_set"),d9 (fM K (b9 K) "do_look" "Machine.do_look"),d9 (fM K (b9 K) "do_swap" "Machine.do_swap"),d9 (fM K (b9 K) "carry" "Machine.carry"),d9 (fM K (b9 K) "come" "Machine.come"),d9 (fM K (b9 K) "on_board" "Machine.on_board"),d9 (fM K (b9 K) "settle" "Machine.settle"),d9 (fM K (b9 K) "twin" "Machine.twin"),d9 (fM K (b9 K) "where" "Machine.where"),d9 (fM K (b9 K) "steps_done" "Machine.steps_done"),d9 (fM K (b9 K) "registers" "Machine.registers"),d9 (fM K (b9 K) "waiting" "Machine.waiting"),d9 (fM K (b9 K) "board" "Machine.board"),d9 (fM K (b9 K) "deeds" "Machine.deeds"),d9 (fM K (b9 K) "over" "Machine.over"),d9 (fN K "place_behind"),d9 (fN K "has_form_of_move"),d9 (fN K "steps_of"),d9 (fM K (jz K) "__init__" "NoProgram.__init__"),d9 (fN K "_law_cell_at"),d9 (fN K "_law_mixed"),d9 (fN K "_law_stream"),d9 (fN K "_law_pick"),d9 (fN K "_law_one"),d9 (fN K "_law_program"),d9 (fN K "_law_stand"),d9 (fN K "_law_settles"),d9 (fN K "_law_made"),d9 (fN K "_law_refused"),d9 (fN K "law"),d9 (W.findIn K (.ref (ic K)) "empties" = some (some (.ref (pF K)))),d9 (W.findIn K (.ref (ie K)) "empties" = some (some (.ref (pF K)))),d9 (W.findIn K (.ref (ib K)) "empties" = some (some (.ref (pF K)))),d9 (W.findIn K (.ref (ia K)) "empties" = some (some (.ref (pF K)))),d9 (W.findIn K (.ref (hZ K)) "empties" = some (some (.ref (pF K)))),d9 (W.findIn K (.ref (l6 K)) "__init__" = some (some (.ref (zI K)))),d9 (W.specialIn K (.ref (tI K)) "__getattribute__" = some (some (.builtin "type.__getattribute__"))),d9 (W.readsIn K (tI K) (.type "type")=true),d9 (HT.NR (W.findCls K (.ref (tI K)) (.type "type") "__init__") (zI K)=true),d9 (zN K "isinstance"),d9 (zN K "int"),d9 (zN K "bool"),d9 (zN K "str"),d9 (zN K "tuple"),d9 (zN K "len"),d9 (zN K "all"),d9 (zN K "zip"),d9 (zN K "enumerate"),d9 (zN K "range"),d9 (zN K "list"),d9 (zN K "min"),d9 (zN K "sorted"),d9 (HT.xQ (W.nsIn K fQ "TOP") mm=true),d9 (HT.xQ (W.nsIn K fQ "NAMES") 12=true),d9 (HT.xQ (W.nsIn K fQ "REGISTERS") 4=true),d9 (HT.xQ (W.nsIn K fQ "LONGEST") 120=true),d9 (HT.xQ (W.nsIn K fQ "CLERKS") 4=true),d9 (rN K "KINDS"),d9 (HT.tupS K (Tr K) ["row","name","none"]=true),d9 (W.specialIn K (.builtin "object.__class__") "__get__" = some (some (.builtin "getset_descriptor.__get__"))),d9 (W.takesIn K (.builtin "object.__class__")=some true),d9 (W.findIn K (.ref (ic K)) "__class__" = some (some (.builtin "object.__class__"))),d9 (W.mroIn K (ic K) (.type "object")=some true),d9 (W.kitOne K (.ref (ic K)) (.ref (ic K))=some true),d9 (W.kitOne K (.ref (ic K)) (.ref (ie K))=some false),d9 (W.kitOne K (.ref (ic K)) (.ref (ib K))=some false),d9 (W.kitOne K (.ref (ic K)) (.ref (ia K))=some false),d9 (W.kitOne K (.ref (ic K)) (.ref (hY K))=some false),d9 (W.kitOne K (.ref (ic K)) (.ref (hZ K))=some false),d9 (W.findIn K (.ref (ie K)) "__class__" = some (some (.builtin "object.__class__"))),d9 (W.mroIn K (ie K) (.type "object")=some true),d9 (W.kitOne K (.ref (ie K)) (.ref (ic K))=some false),d9 (W.kitOne K (.ref (ie K)) (.ref (ie K))=some true),d9 (W.kitOne K (.ref (ie K)) (.ref (ib K))=some false),d9 (W.kitOne K (.ref (ie K)) (.ref (ia K))=some false),d9 (W.kitOne K (.ref (ie K)) (.ref (hY K))=some false),d9 (W.kitOne K (.ref (ie K)) (.ref (hZ K))=some false),d9 (W.findIn K (.ref (ib K)) "__class__" = some (some (.builtin "object.__class__"))),d9 (W.mroIn K (ib K) (.type "object")=some true),d9 (W.kitOne K (.ref (ib K)) (.ref (ic K))=some false),d9 (W.kitOne K (.ref (ib K)) (.ref (ie K))=some false),d9 (W.kitOne K (.ref (ib K)) (.ref (ib K))=some true),d9 (W.kitOne K (.ref (ib K)) (.ref (ia K))=some false),d9 (W.kitOne K (.ref (ib K)) (.ref (hY K))=some false),d9 (W.kitOne K (.ref (ib K)) (.ref (hZ K))=some false),d9 (W.findIn K (.ref (ia K)) "__class__" = some (some (.builtin "object.__class__"))),d9 (W.mroIn K (ia K) (.type "object")=some true),d9 (W.kitOne K (.ref (ia K)) (.ref (ic K))=some false),d9 (W.kitOne K (.ref (ia K)) (.ref (ie K))=some false),d9 (W.kitOne K (.ref (ia K)) (.ref (ib K))=some false),d9 (W.kitOne K (.ref (ia K)) (.ref (ia K))=some true),d9 (W.kitOne K (.ref (ia K)) (.ref (hY K))=some false),d9 (W.kitOne K (.ref (ia K)) (.ref (hZ K))=some false),d9 (W.findIn K (.ref (hY K)) "__class__" = some (some (.builtin "object.__class__"))),d9 (W.mroIn K (hY K) (.type "object")=some true),d9 (W.kitOne K (.ref (hY K)) (.ref (ic K))=some false),d9 (W.kitOne K (.ref (hY K)) (.ref (ie K))=some false),d9 (W.kitOne K (.ref (hY K)) (.ref (ib K))=some false),d9 (W.kitOne K (.ref (hY K)) (.ref (ia K))=some false),d9 (W.kitOne K (.ref (hY K)) (.ref (hY K))=some true),d9 (W.kitOne K (.ref (hY K)) (.ref (hZ K))=some false),d9 (W.findIn K (.ref (l6 K)) "__class__" = some (some (.builtin "object.__class__"))),d9 (W.mroIn K (l6 K) (.type "object")=some true),d9 (W.kitOne K (.ref (l6 K)) (.ref (ic K))=some false),d9 (W.kitOne K (.ref (l6 K)) (.ref (ie K))=some false),d9 (W.kitOne K (.ref (l6 K)) (.ref (ib K))=some false),d9 (W.kitOne K (.ref (l6 K)) (.ref (ia K))=some false),d9 (W.kitOne K (.ref (l6 K)) (.ref (hY K))=some false),d9 (W.kitOne K (.ref (l6 K)) (.ref (hZ K))=some false),d9 (W.findIn K (.ref (hZ K)) "__class__" = some (some (.builtin "object.__class__"))),d9 (W.mroIn K (hZ K) (.type "object")=some true),d9 (W.kitOne K (.ref (hZ K)) (.ref (ic K))=some false),d9 (W.kitOne K (.ref (hZ K)) (.ref (ie K))=some false),d9 (W.kitOne K (.ref (hZ K)) (.ref (ib K))=some false),d9 (W.kitOne K (.ref (hZ K)) (.ref (ia K))=some false),d9 (W.kitOne K (.ref (hZ K)) (.ref (hY K))=some false),d9 (W.kitOne K (.ref (hZ K)) (.ref (hZ K))=some true),d9 (LI K (jz K) vE "ValueError.__new__" = true),d9 (W.keepIn K (.ref (jz K))=true),d9 (W.findIn K (.ref (jz K)) "__setattr__" = some (some (.builtin "object.__setattr__"))),d9 ((W.clsIn K (jz K)).any (λcd=>rK cd.mro&&cd.hasDict)=true),d9 (W.findIn K (.ref (jz K)) "clerk" = some none),d9 (W.findIn K (.ref (jz K)) "place" = some none),d9 (W.kitCls K (.ref (jz K)) (.type "BaseException")=some true),d9 (W.kitCls K (.ref (pD K)) (.ref (pE K))=some false),d9 (W.kitCls K (.ref (jz K)) (.ref (pE K))=some false),d9 (W.kitCls K (.ref (jz K)) (.ref (pD K))=some false),d9 (W.kitCls K (.ref (jz K)) (.ref (jz K))=some true),d9 (W.kitOne K (.ref (pE K)) (.ref (pD K))=some false),d9 (W.kitOne K (.ref (pE K)) (.ref (jz K))=some false),d9 (W.kitOne K (.ref (pD K)) (.ref (jz K))=some false),d9 (W.findIn K (.ref (pE K)) (dZ "__getattribute__")=some (some (.builtin i3))),d9 (W.findIn K (.ref (pE K)) (dZ "__getattr__")=some none),d9 (W.mroIn K (pE K) (.type "BaseException")=some true),d9 (W.findIn K (.ref (pD K)) (dZ "__getattribute__")=some (some (.builtin i3))),d9 (W.findIn K (.ref (pD K)) (dZ "__getattr__")=some none),d9 (W.mroIn K (pD K) (.type "BaseException")=some true),d9 (W.findIn K (.ref (jz K)) (dZ "__getattribute__")=some (some (.builtin i3))),d9 (W.findIn K (.ref (jz K)) (dZ "__getattr__")=some none),d9 (W.mroIn K (jz K) (.type "BaseException")=some true),d9 (W.hasDictIn K (pE K)=true),d9 (W.findIn K (.ref (pE K)) (dZ "__class__")=some (some (.builtin "object.__class__"))),d9 (W.mroIn K (pE K) (.type "object")=some true),d9 (W.hasDictIn K (pD K)=true),d9 (W.findIn K (.ref (pD K)) (dZ "__class__")=some (some (.builtin "object.__class__"))),d9 (W.mroIn K (pD K) (.type "object")=some true)]
def seen(K:W.Frag):Bool:=(NK K ()).all id
def uj:List Nat:=[3,2,0,1,6,31,44,56,75,87,99,153,174,193,219,245,285,304,330,434,640,24,30,37,43,49,55,61,74,80,86,92,98,104,152,160,173,179,192,198,218,224,244,250,284,290,303,309,329,381,433,465,639,19,21,70,72,113,115,120,122,127,129,134,136,141,143,148,150,169,171,188,190,207,209,214,216,233,235,240,242,259,261,266,268,273,275,280,282,299,301,318,320,325,327,337,339,344,346,349,351,356,358,361,363,368,370,375,377,388,390,395,397,402,404,407,409,414,416,419,421,424,426,429,431,443,445,448,450,453,455,460,462,473,475,480,482,487,489,492,494,497,499,504,506,511,513,518,520,525,527,532,534,539,541,546,548,553,555,560,562,567,569,574,576,581,583,588,590,595,597,602,604,609,611,616,618,623,625,630,632,635,637,649,651,656,658,663,665,670,672,677,679,684,686,689,691,694,696,701,703,708,710,715,717,8,9,12,13,16,20,23,26,27,32,33,34,36,39,40,45,46,48,51,52,57,58,60,63,64,67,71,76,77,79,82,83,88,89,91,94,95,100,101,103,106,107,110,114,117,121,124,128,131,135,138,142,145,149,154,155,156,157,159,162,163,166,170,175,176,178,181,182,185,189,194,195,197,200,201,204,208,211,215,220,221,223,226,227,230,234,237,241,246,247,249,252,253,256,260,263,267,270,274,277,281,286,287,289,292,293,296,300,305,306,308,311,312,315,319,322,326,331,332,334,338,341,345,348,350,353,357,360,362,365,369,372,376,380,383,384,387,389,392,396,399,403,406,408,411,415,418,420,423,425,428,430,435,436,437,438,440,444,447,449,452,454,457,461,464,467,468,472,474,477,481,484,488,491,493,496,498,501,505,508,512,515,519,522,526,529,533,536,540,543,547,550,554,557,561,564,568,571,575,578,582,585,589,592,596,599,603,606,610,613,617,620,624,627,631,634,636,641,642,643,644,646,650,653,657,660,664,667,671,674,678,681,685,688,690,693,695,698,702,705,709,712,716,4,5,7,10,11,14,15,17,18,22,25,28,29,35,38,41,42,47,50,53,54,59,62,65,66,68,69,73,78,81,84,85,90,93,96,97,102,105,108,109,111,112,116,118,119,123,125,126,130,132,133,137,139,140,144,146,147,151,158,161,164,165,167,168,172,177,180,183,184,186,187,191,196,199,202,203,205,206,210,212,213,217,222,225,228,229,231,232,236,238,239,243,248,251,254,255,257,258,262,264,265,269,271,272,276,278,279,283,288,291,294,295,297,298,302,307,310,313,314,316,317,321,323,324,328,333,335,336,340,342,343,347,352,354,355,359,364,366,367,371,373,374,378,379,382,385,386,391,393,394,398,400,401,405,410,412,413,417,422,427,432,439,441,442,446,451,456,458,459,463,466,469,470,471,476,478,479,483,485,486,490,495,500,502,503,507,509,510,514,516,517,521,523,524,528,530,531,535,537,538,542,544,545,549,551,552,556,558,559,563,565,566,570,572,573,577,579,580,584,586,587,591,593,594,598,600,601,605,607,608,612,614,615,619,621,622,626,628,629,633,638,645,647,648,652,654,655,659,661,662,666,668,669,673,675,676,680,682,683,687,692,697,699,700,704,706,707,711,713,714]
def qp(K:W.Frag):List (Option HT.qI):=[HT.br K (WU K),HT.br K (WY K),HT.br K (WV K),HT.br K (WW K),HT.br K (zI K),HT.br K (LR K),HT.br K (LU K),HT.br K (LO K),HT.br K (KJ K),HT.br K (KH K),HT.br K (KI K),HT.br K (pF K),HT.br K (UE K),HT.br K (UG K),HT.br K (ane K),HT.br K (anf K),HT.br K (anb K),HT.br K (Wc K),HT.br K (am4 K),HT.br K (am1 K),HT.br K (MC K),HT.br K (amZ K),HT.br K (am2 K),HT.br K (am3 K),HT.br K (amY K),HT.br K (am0 K),HT.E9 K (LS K),HT.br K (anp K),HT.br K (am9 K),HT.br K (anm K),HT.br K (ana K),HT.br K (anj K),HT.br K (ani K),HT.br K (anh K),HT.br K (ank K),HT.br K (ang K),HT.br K (anl K),HT.br K (ano K),HT.br K (am8 K),HT.br K (am6 K),HT.br K (am' K),HT.br K (Wb K),HT.br K (Wd K),HT.br K (We K),HT.br K (Wa K),HT.br K (Wh K),HT.br K (Wg K),HT.br K (Wf K),HT.br K (am7 K),HT.br K (anc K),HT.br K (am5 K),HT.br K (alE K),HT.br K (alP K),HT.br K (alN K),HT.br K (alG K),HT.br K (alL K),HT.br K (alM K),HT.br K (alK K),HT.br K (alI K),HT.br K (alH K),HT.br K (alO K),HT.br K (alJ K),HT.br K (alF K)]
def pq:List (Option HT.qI):=[fp "is_whole" "is_whole" Bj,fp "bounds_of" "bounds_of" Be,fp "is_step" "is_step" DZ,fp "step_of" "step_of" Kh,fp "__init__" "Step.__init__" EC,fp "__init__" "Put.__init__" EB,fp "__init__" "Add.__init__" ED,fp "__init__" "Set.__init__" EA,fp "__init__" "Look.__init__" Eh,fp "__init__" "Swap.__init__" Ef,fp "__init__" "Skip.__init__" Eg,fp "empties" "Step.empties" Ei,fp "empties" "Swap.empties" Dx,fp "empties" "Clear.empties" Dr,fp "has_clerks" "has_clerks" MR,fp "fits" "fits" Ma,fp "look_over" "look_over" IW,fp "__init__" "Tray.__init__" BW,fp "add" "Tray.add" L6,fp "latest" "Tray.latest" Jv,fp "fronts" "Tray.fronts" DI,fp "take" "Tray.take" KY,fp "is_empty" "Tray.is_empty" Kf,fp "listed" "Tray.listed" Ju,fp "twin" "Tray.twin" KW,fp "tray_of" "tray_of" Ke,fp "__init__" "Machine.__init__" Bk,fp "at_end" "Machine.at_end" Lh,fp "may_do" "Machine.may_do" La,fp "carries" "Machine.carries" JA,fp "moves" "Machine.moves" Kl,fp "do" "Machine.do" MP,fp "do_step" "Machine.do_step" Ko,fp "do_set" "Machine.do_set" Ld,fp "do_look" "Machine.do_look" Kq,fp "do_swap" "Machine.do_swap" Kn,fp "carry" "Machine.carry" Lf,fp "come" "Machine.come" Mb,fp "on_board" "Machine.on_board" Jy,fp "settle" "Machine.settle" Kj,fp "twin" "Machine.twin" Lc,fp "where" "Machine.where" KU,fp "steps_done" "Machine.steps_done" IB,fp "registers" "Machine.registers" IC,fp "waiting" "Machine.waiting" Jt,fp "board" "Machine.board" Lg,fp "deeds" "Machine.deeds" Le,fp "over" "Machine.over" L8,fp "place_behind" "place_behind" Ig,fp "has_form_of_move" "has_form_of_move" L',fp "steps_of" "steps_of" Jw,fp "__init__" "NoProgram.__init__" MO,fp "_law_cell_at" "_law_cell_at" Kr,fp "_law_mixed" "_law_mixed" KZ,fp "_law_stream" "_law_stream" Kg,fp "_law_pick" "_law_pick" L7,fp "_law_one" "_law_one" MN,fp "_law_program" "_law_program" Bm,fp "_law_stand" "_law_stand" Ki,fp "_law_settles" "_law_settles" Jx,fp "_law_made" "_law_made" Lb,fp "_law_refused" "_law_refused" BJ,fp "law" "law" qy]
def qv:Program:=W.view PySem.Challenge.rw_traylate_k27_settled.prog [0,2,3,4,5,6,7,9,10,11,12,13,14,15,16,17,18,19,20,21,22,23,24,26,27,28,29,31,32,33,35,36,37,38,40,41,42,43,44,45,46,47,48,49,50]
def akT:Pos:=match qy with
 | .FunctionDef _ _ _ _ _ _ _ _ _ p=>p
 | _=>default
def dl:DefRec:=⟨"law",ma qy,hX qy,aQ qy,akT⟩
end TL
open PySem PySem.W PyProof.Rows in
theorem TL.mark_:True:=trivial
section
open PySem PySem.W PyProof.Rows
theorem TL.r1(w:World)(os:OsState):(HT.nG PySem.Challenge.rw_traylate_k27_settled.row.prog w 11746 os).map (λs=>(HT.held PySem.Challenge.rw_traylate_k27_settled.row.prog w.params s.abs,(tabsOk TL.qv s.abs,pinSeenD TL.qv (drecsOf TL.qv) s.abs)))=some (true,(true,pinGoodD (drecsOf TL.qv))):=by kernel_rfl
theorem TL.r2a(w:World)(os:OsState):(HT.nG PySem.Challenge.rw_traylate_k27_settled.row.prog w 11746 os).map (λs=>s.abs.heap.keysOk (looseW TL.qv []) ((recsOf TL.qv).map (·.name)) ((litsOf TL.qv).map (·.1)) ((clssOf TL.qv (looseW TL.qv [])).map (·.name))&&s.abs.heap.accountedOkI (Di PySem.Challenge.rw_traylate_k27_settled.row.prog.main.body)&&s.abs.heap.isNs fQ&&s.abs.heap.isNs rF&&tablesOk TL.qv s.abs.heap&&(λs=>W.xlAt TL.qv [] s&&W.recOk PySem.Challenge.rw_traylate_k27_settled.row.records s) s.abs&&(s.abs.gens.size == 0))=some true:=by kernel_rfl
theorem TL.r2b(w:World)(os:OsState):(HT.nG PySem.Challenge.rw_traylate_k27_settled.row.prog w 11746 os).map (λs=>(PyProof.Rows.seen ((recsOf TL.qv).map (·.name)) (ownsOf TL.qv) [] { heap:=s.abs.heap,drawn:=s.abs.drawn,toks:=s.abs.toks,os:=s.abs.os },s.abs.heap.bltView))=some (expectedOf TL.qv,bltViewBooted):=by kernel_rfl
theorem TL.r2c(w:World)(os:OsState):(HT.nG PySem.Challenge.rw_traylate_k27_settled.row.prog w 11746 os).map (λs=>plainSeenE TL.qv (looseW TL.qv []) s.abs)=some (plainGoodE TL.qv (looseW TL.qv [])):=by kernel_rfl
theorem TL.r2d(w:World)(os:OsState):(HT.nG PySem.Challenge.rw_traylate_k27_settled.row.prog w 11746 os).map (λs=>(plainSeenD TL.qv [] s.abs,(wideSeen TL.qv s.abs,clsSeenW TL.qv [] s.abs)))=some (plainGoodD TL.qv [],(wideGood TL.qv,clsGoodW TL.qv [])):=by kernel_rfl
theorem TL.r2(w:World)(os:OsState):(HT.nG PySem.Challenge.rw_traylate_k27_settled.row.prog w 11746 os).map (λs=>W.openSeen TL.qv [] (Di PySem.Challenge.rw_traylate_k27_settled.row.prog.main.body) (λs=>W.xlAt TL.qv [] s&&W.recOk PySem.Challenge.rw_traylate_k27_settled.row.records s) true s.abs)=some (W.openGood TL.qv []):=HT.ahY (TL.r2a w os) (TL.r2b w os) (HT.both (HT.E8 (HT.BI (TL.r1 w os))) (HT.both (HT.BI (HT.BI (TL.r1 w os))) (HT.both (TL.r2c w os) (TL.r2d w os))))
theorem TL.r3S(w:World)(os:OsState):(HT.nG PySem.Challenge.rw_traylate_k27_settled.row.prog w 11746 os).map (λs=>TL.seen (HT.zw s TL.uj 406))=some true:=by kernel_rfl
theorem TL.XR(w:World)(os:OsState):(HT.nG PySem.Challenge.rw_traylate_k27_settled.row.prog w 11746 os).map (λs=>(HT.xw (HT.gT s 406),TL.qp (HT.zw s TL.uj 406)))=some (true,TL.pq):=by kernel_rfl
theorem TL.r3(w:World)(os:OsState):(HT.nG PySem.Challenge.rw_traylate_k27_settled.row.prog w 11746 os).map (λs=>(HT.tP TL.uj 406 (λK=>(TL.seen K,TL.qp K)) (true,TL.pq)).obs s.abs)=some (true,(true,TL.pq)):=HT.akR (HT.E8 (TL.XR w os)) (HT.both (TL.r3S w os) (HT.BI (TL.XR w os)))
end
namespace L2
universe u0 u1 u2 u3 u4 u5 u6 u7 u8 u9
section
variable{A:Sort u0}{B:Sort u1}{C:Sort u2}{D:Sort u3}{E:Sort u4}{F:Sort u5}{I:Sort u6}{J:Sort u7}{L:Sort u8}{M:Sort u9}{G:Prop}
theorem oA{p q:Prop}(H:p/\q)(K:p->q->G):G:=by
 obtain⟨k,m⟩:=H;exact K k m
theorem oE{p:A->Prop}(H:∃a,p a)(K:∀a,p a->G):G:=by
 obtain⟨a,k⟩:=H;exact K a k
theorem iq{p q r:Prop}(k:p)(m:q)(n:r):p/\q/\r:=⟨k,m,n⟩
theorem ar{p q:A->Prop}(a:A)(k:p a)(m:q a):∃a,p a/\q a:=⟨a,k,m⟩
theorem sv{p:A->B->Prop}(a:A)(b:B)(k:p a b):∃a b,p a b:=⟨a,b,k⟩
theorem gH{p q r:Prop}(H:p/\q/\r)(K:p->q->r->G):G:=by
 obtain⟨k,m,n⟩:=H;exact K k m n
theorem ah{p q:A->Prop}(H:∃a,p a/\q a)(K:∀a,p a->q a->G):G:=by
 obtain⟨a,k,m⟩:=H;exact K a k m
theorem xO{p:A->B->Prop}(H:∃a b,p a b)(K:∀a b,p a b->G):G:=by
 obtain⟨a,b,k⟩:=H;exact K a b k
theorem c8{p q r:A->Prop}(a:A)(k:p a)(m:q a)(n:r a):∃a,p a/\q a/\r a:=⟨a,k,m,n⟩
theorem eW{p q:A->B->Prop}(a:A)(b:B)(k:p a b)(m:q a b):∃a b,p a b/\q a b:=⟨a,b,k,m⟩
theorem aL{p q r:A->Prop}(H:∃a,p a/\q a/\r a)(K:∀a,p a->q a->r a->G):G:=by
 obtain⟨a,k,m,n⟩:=H;exact K a k m n
theorem a9{p q:A->B->Prop}(H:∃a b,p a b/\q a b)(K:∀a b,p a b->q a b->G):G:=by
 obtain⟨a,b,k,m⟩:=H;exact K a b k m
theorem MT{p:A->B->C->Prop}(H:∃a b c,p a b c)(K:∀a b c,p a b c->G):G:=by
 obtain⟨a,b,c,k⟩:=H;exact K a b c k
theorem dv{p q r:A->B->Prop}(a:A)(b:B)(k:p a b)(m:q a b)(n:r a b):∃a b,p a b/\q a b/\r a b:=⟨a,b,k,m,n⟩
theorem cY{p:A->B->C->D->Prop}(a:A)(b:B)(c:C)(d:D)(k:p a b c d):∃a b c d,p a b c d:=⟨a,b,c,d,k⟩
theorem gi{p q r s:A->Prop}(H:∃a,p a/\q a/\r a/\s a)(K:∀a,p a->q a->r a->s a->G):G:=by
 obtain⟨a,k,m,n,o⟩:=H;exact K a k m n o
theorem cG{p q r:A->B->Prop}(H:∃a b,p a b/\q a b/\r a b)(K:∀a b,p a b->q a b->r a b->G):G:=by
 obtain⟨a,b,k,m,n⟩:=H;exact K a b k m n
theorem eV{p q:A->B->C->Prop}(H:∃a b c,p a b c/\q a b c)(K:∀a b c,p a b c->q a b c->G):G:=by
 obtain⟨a,b,c,k,m⟩:=H;exact K a b c k m
theorem Mh{p:A->B->C->D->Prop}(H:∃a b c d,p a b c d)(K:∀a b c d,p a b c d->G):G:=by
 obtain⟨a,b,c,d,k⟩:=H;exact K a b c d k
theorem gD{p q r s t:A->Prop}(a:A)(k:p a)(m:q a)(n:r a)(o:s a)(h:t a):∃a,p a/\q a/\r a/\s a/\t a:=⟨a,k,m,n,o,h⟩
theorem qi{p q r s:A->B->Prop}(a:A)(b:B)(k:p a b)(m:q a b)(n:r a b)(o:s a b):∃a b,p a b/\q a b/\r a b/\s a b:=⟨a,b,k,m,n,o⟩
theorem md{p q r s t u:Prop}(H:p/\q/\r/\s/\t/\u)(K:p->q->r->s->t->u->G):G:=by
 obtain⟨k,m,n,o,h,h1⟩:=H;exact K k m n o h h1
theorem nW{p q r s:A->B->Prop}(H:∃a b,p a b/\q a b/\r a b/\s a b)(K:∀a b,p a b->q a b->r a b->s a b->G):G:=by
 obtain⟨a,b,k,m,n,o⟩:=H;exact K a b k m n o
theorem kA{p q r:A->B->C->Prop}(H:∃a b c,p a b c/\q a b c/\r a b c)(K:∀a b c,p a b c->q a b c->r a b c->G):G:=by
 obtain⟨a,b,c,k,m,n⟩:=H;exact K a b c k m n
theorem ph{p q:A->B->C->D->Prop}(H:∃a b c d,p a b c d/\q a b c d)(K:∀a b c d,p a b c d->q a b c d->G):G:=by
 obtain⟨a,b,c,d,k,m⟩:=H;exact K a b c d k m
theorem g9{p q r s t u:A->Prop}(a:A)(k:p a)(m:q a)(n:r a)(o:s a)(h:t a)(h1:u a):∃a,p a/\q a/\r a/\s a/\t a/\u a:=⟨a,k,m,n,o,h,h1⟩
theorem jh{p q r s t:A->B->C->Prop}(a:A)(b:B)(c:C)(k:p a b c)(m:q a b c)(n:r a b c)(o:s a b c)(h:t a b c):∃a b c,p a b c/\q a b c/\r a b c/\s a b c/\t a b c:=⟨a,b,c,k,m,n,o,h⟩
theorem iV{p q r s t u:A->B->Prop}(H:∃a b,p a b/\q a b/\r a b/\s a b/\t a b/\u a b)(K:∀a b,p a b->q a b->r a b->s a b->t a b->u a b->G):G:=by
 obtain⟨a,b,k,m,n,o,h,h1⟩:=H;exact K a b k m n o h h1
theorem ni{p q:A->B->C->D->E->F->Prop}(H:∃a b c d e f,p a b c d e f/\q a b c d e f)(K:∀a b c d e f,p a b c d e f->q a b c d e f->G):G:=by
 obtain⟨a,b,c,d,e,f,k,m⟩:=H;exact K a b c d e f k m
theorem qd{p q r s t:A->B->C->D->Prop}(a:A)(b:B)(c:C)(d:D)(k:p a b c d)(m:q a b c d)(n:r a b c d)(o:s a b c d)(h:t a b c d):∃a b c d,p a b c d/\q a b c d/\r a b c d/\s a b c d/\t a b c d:=⟨a,b,c,d,k,m,n,o,h⟩
theorem iU{p q r s t u:A->B->C->D->Prop}(a:A)(b:B)(c:C)(d:D)(k:p a b c d)(m:q a b c d)(n:r a b c d)(o:s a b c d)(h:t a b c d)(h1:u a b c d):∃a b c d,p a b c d/\q a b c d/\r a b c d/\s a b c d/\t a b c d/\u a b c d:=⟨a,b,c,d,k,m,n,o,h,h1⟩
theorem oW{p q r s t u:A->B->C->D->E->Prop}(a:A)(b:B)(c:C)(d:D)(e:E)(k:p a b c d e)(m:q a b c d e)(n:r a b c d e)(o:s a b c d e)(h:t a b c d e)(h1:u a b c d e):∃a b c d e,p a b c d e/\q a b c d e/\r a b c d e/\s a b c d e/\t a b c d e/\u a b c d e:=⟨a,b,c,d,e,k,m,n,o,h,h1⟩
theorem l0{p:A->B->C->D->E->F->I->J->L->M->Prop}(H:∃a b c d e f g i j l,p a b c d e f g i j l)(K:∀a b c d e f g i j l,p a b c d e f g i j l->G):G:=by
 obtain⟨a,b,c,d,e,f,g,i,j,l,k⟩:=H;exact K a b c d e f g i j l k
end
theorem w0{p:Prop}(h:p:=by with_reducible assumption):p:=h
theorem w1{a:Nat}  : a<=a:=aF a
theorem w2{a:Nat}  : 0<=a:=bX a
theorem w3{a b:Nat}(h:a<b:=by with_reducible assumption):a<=b:=cO h
theorem w4{a b c:Nat}(h:a<=b:=by with_reducible assumption)(g:b<=c:=by decide):a<=c:=cu h g
theorem w5{a b c:Nat}(h:a<b:=by with_reducible assumption)(g:b<=c:=by decide):a<=c:=cu (cO h) g
theorem w6{a b c:Nat}(h:a=b:=by with_reducible assumption)(g:b<=c:=by decide):a<=c:=cu (qb h) g
theorem w7{a b c:Nat}(h:a=b:=by with_reducible assumption)(g:b<=c:=by with_reducible assumption):a<=c:=cu (qb h) g
theorem w8{a b c d:Nat}(h:a=b:=by with_reducible assumption)(g:b<=c:=by with_reducible assumption)(k:c<=d:=by decide):a<=d:=cu (qb h) (cu g k)
theorem w9{a b c d:Nat}(h:b=a:=by with_reducible assumption)(g:b<=c:=by with_reducible assumption)(k:c<=d:=by decide):a<=d:=cu (qb h.symm) (cu g k)
theorem wa{a b c:Nat}(h:a<b:=by with_reducible assumption)(g:b<=c:=by decide):a<c:=eK h g
theorem wb{a b c:Nat}(h:a<=b:=by with_reducible assumption)(g:b<c:=by decide):a<c:=rh h g
theorem wd{a b c d:Nat}(h:a=b:=by with_reducible assumption)(g:b<=c:=by with_reducible assumption)(k:c<d:=by decide):a<d:=rh (qb h) (rh g k)
theorem wf{a b c:Nat}(h:a<b:=by with_reducible assumption)(g:b=c:=by with_reducible assumption):a<c:=P9 h g
theorem wg{a b c:Nat}(h:a<b:=by with_reducible assumption)(g:c=b:=by with_reducible assumption):a<c:=P9 h g.symm
theorem wh{a b c:Nat}(h:a<b:=by with_reducible assumption)(g:b<=c:=by with_reducible assumption):a<c:=eK h g
theorem wi{a b c:Nat}(h:a<=b:=by with_reducible assumption)(g:b<c:=by with_reducible assumption):a<c:=rh h g
theorem wj{a b c:Nat}(h:a<=b:=by with_reducible assumption)(g:b<=c:=by with_reducible assumption):a<=c:=cu h g
theorem wk{a b c m:Nat}(h:a=b+m*c:=by with_reducible assumption)(g:a<b:=by decide):False:=by omega
theorem wl{a b c m:Nat}(h:b+m*c=a:=by with_reducible assumption)(g:a<b:=by decide):False:=by omega
theorem wo{a b c:Nat}(h:a=b:=by with_reducible assumption)(g:b=c:=by with_reducible assumption):a=c:=h.trans g
theorem wp{a b c:Nat}(h:a=b:=by with_reducible assumption)(g:c=b:=by with_reducible assumption):a=c:=h.trans g.symm
theorem wr{a b c:Nat}(h:a=b:=by with_reducible assumption)(g:c<b:=by with_reducible assumption):c<a:=P9 g h.symm
theorem ws{a b c:Nat}(h:a=b:=by with_reducible assumption)(g:b<=c:=by with_reducible assumption):a<=c:=cu (qb h) g
theorem wu{a b c d e:Nat}(h:a=b:=by with_reducible assumption)(g:b=c:=by with_reducible assumption)(k:c<=d:=by with_reducible assumption)(m:d<=e:=by decide):a<=e:=cu (qb (h.trans g)) (cu k m)
theorem xa{a b c d e:Nat}(h:a<b:=by with_reducible assumption)(g:b=c:=by with_reducible assumption)(k:c<=d:=by with_reducible assumption)(m:d<=e:=by decide):a<e:=eK h (cu (qb g) (cu k m))
theorem xb{a b c d:Nat}(h:a<b:=by with_reducible assumption)(g:b<=c:=by with_reducible assumption)(k:c<=d:=by decide):a<d:=eK h (cu g k)
theorem xc{a b c d e:Nat}(h:a<b:=by with_reducible assumption)(g:b=c:=by with_reducible assumption)(k:c<=d:=by with_reducible assumption)(m:d<=e:=by decide):a<=e:=cu (cO h) (cu (qb g) (cu k m))
theorem xd{a:Nat}  : a<=a+1:=jq a
theorem xe{a b:Nat}(h:a<b:=by with_reducible assumption):a<=b+1:=wJ (cO h)
theorem xf{a b:Nat}(h:a<b:=by with_reducible assumption):a+1<=b:=h
theorem xh{a b c e:Nat}(h:a<=b+1:=by with_reducible assumption)(g:b<=c:=by with_reducible assumption)(k:c+1<=e:=by decide):a<=e:=cu h (cu (Dg g) k)
theorem xi{a b c e:Nat}(h:a<=b+1:=by with_reducible assumption)(g:b<=c:=by with_reducible assumption)(k:c+1<e:=by decide):a<e:=rh h (rh (Dg g) k)
theorem xl{a n:Nat}  : min a n<=a:=Nat.min_le_left a n
theorem xm{a:Int}(h:0<=a:=by with_reducible assumption):a=(a.toNat:Int):=(Int.toNat_of_nonneg h).symm
end L2
namespace L2
open PySem PySem.Spec PyProof.Rows
abbrev Key:=Sum Int Str
def V3:Key->Value->Bool
 | .inl k,v=>Value.isInt k v
 | .inr x,v=>Value.isStrOf x v
def aob(w:World):Key->Int
 | .inl k=>hashInt k
 | .inr x=>hashStr w x
theorem tw:∀{k:Key} {v:Value},V3 k v=true->(∃i t,k=xn i/\v=nh i t)\/(∃x t,k=xk x/\v=A5 x t)
 | .inl i,v,h=>by
  refine oE (Value.isInt_shape (k:=i) (v:=v) h) λt e=>?_;exact .inl ⟨i,t,rfl,e⟩
 | .inr x,v,h=>by
  refine oE (Value.isStrOf_shape (x:=x) (v:=v) h) λt e=>?_;exact .inr ⟨x,t,rfl,e⟩
theorem ak1(a b:Int):decide ((xn a:Key)=xn b)=(a == b):=by
 by_cases e:a=b
 ·subst e;simp
 ·have h:¬(xn a:Key)=xn b:=λq=>e (xn.inj q);rw[decide_eq_false h];exact(beq_eq_false_iff_ne.mpr e).symm
theorem akY(a b:Str):decide ((xk a:Key)=xk b)=decide (a=b):=by
 by_cases e:a=b
 ·subst e;simp
 ·have h:¬(xk a:Key)=xk b:=λq=>e (xk.inj q);rw[decide_eq_false h,decide_eq_false e]
theorem ak0(a:Int)(b:Str):decide ((xn a:Key)=xk b)=false:=decide_eq_false (λq=>nomatch q)
theorem akZ(a:Str)(b:Int):decide ((xk a:Key)=xn b)=false:=decide_eq_false (λq=>nomatch q)
def Ud(prog:Program)(w:World):PySem.KeyKind prog w Key where
 is:=V3
 hash:=aob w
 inj:=λv a b ha hb=>by
  rcases tw ha with ⟨i,t,rfl,rfl⟩ | ⟨x,t,rfl,rfl⟩
  ·rcases tw hb with ⟨j,u,rfl,e⟩ | ⟨y,u,rfl,e⟩
   ·injection e with e1 _;rw[e1]
   ·exact nomatch e
  ·rcases tw hb with ⟨j,u,rfl,e⟩ | ⟨y,u,rfl,e⟩
   ·exact nomatch e
   ·injection e with e1 _;rw[e1]
 byValue:=λk v h=>by
  rcases tw h with ⟨i,t,rfl,rfl⟩ | ⟨x,t,rfl,rfl⟩ <;> rfl
 pyHash:=λhv h=>by
  rcases tw hv with ⟨i,t,rfl,rfl⟩ | ⟨x,t,rfl,rfl⟩
  ·exact wpAny_pyHash_int h
  ·exact wpAny_pyHash_str h
 eqBool:=λhu hv h=>by
  rcases tw hu with ⟨i,t,rfl,rfl⟩ | ⟨x,t,rfl,rfl⟩
  ·rcases tw hv with ⟨j,u,rfl,rfl⟩ | ⟨y,u,rfl,rfl⟩
   ·rw[ak1]at h;exact wpAny_eqBool_int h
   ·rw[ak0]at h;exact aaQ i t y u _ _ _ _ h
  ·rcases tw hv with ⟨j,u,rfl,rfl⟩ | ⟨y,u,rfl,rfl⟩
   ·rw[akZ]at h;exact aaP x t j u _ _ _ _ h
   ·rw[akY]at h;exact wpAny_eqBool_str h
 «strs»:=λk x t v h=>by
  rcases tw h with ⟨i,u,rfl,e⟩ | ⟨y,u,rfl,e⟩
  ·exact nomatch e
  ·injection e with e1 _
   subst e1;cases v <;> rfl
inductive V where
 | aJ | bl (b:Bool) | int (i:Int) | str (x:Str) | pM (b:Array UInt8) | ud (b:UInt64) | ref (a:Addr) | ty (n:String)
 deriving DecidableEq
def RelV:V->Value->Prop
 | .aJ,u=>u=iI
 | .bl b,u=>u=uV b
 | .int i,u=>∃t,u=nh i t
 | .str x,u=>∃t,u=A5 x t
 | .pM b,u=>∃t,u=Value.bytes b t
 | .ud b,u=>∃t,u=QY b t
 | .ref a,u=>u=cb a
 | .ty n,u=>u=oY n
abbrev Vals:List V->List Value->Prop:=Paired RelV
theorem Vals.length{xs:List V}{us:List Value}(r:Vals xs us):xs.length=us.length:=Paired.length r
theorem Vals.get:∀{xs:List V} {us:List Value} {i:Nat} {x:V},Vals xs us->xs[i]?=some x->∃u,us[i]?=some u/\RelV x u
 | _,_,_,_,.nil,e=>by simp at e
 | _,_,0,_,.cons r _,e=>by simp at e;subst e;exact⟨_,rfl,r⟩
 | _,_,i+1,x,.cons _ t,e=>by
  refine ah (Vals.get (i:=i) (x:=x) t (by simpa using e)) λu h1 h2=>?_;exact⟨u,by simpa using h1,h2⟩
theorem Vals.set{x:V}{u:Value}(r:RelV x u):∀{xs:List V} {us:List Value} (i:Nat),Vals xs us->Vals (xs.set i x) (us.set i u)
 | _,_,_,.nil=>.nil
 | _,_,0,.cons _ t=>.cons r t
 | _,_,i+1,.cons q t=>.cons q (Vals.set r i t)
theorem Vals.append:∀{xs ys:List V} {us ws:List Value},Vals xs us->Vals ys ws->Vals (xs++ys) (us++ws)
 | _,_,_,_,.nil,s=>s
 | _,_,_,_,.cons r t,s=>.cons r (Vals.append t s)
theorem Vals.take:∀{xs:List V} {us:List Value} (n:Nat),Vals xs us->Vals (xs.take n) (us.take n)
 | _,_,0,_=>.nil
 | _,_,_+1,.nil=>.nil
 | _,_,n+1,.cons r t=>.cons r (Vals.take n t)
theorem Vals.drop:∀{xs:List V} {us:List Value} (n:Nat),Vals xs us->Vals (xs.drop n) (us.drop n)
 | _,_,0,r=>r
 | _,_,_+1,.nil=>.nil
 | _,_,n+1,.cons _ t=>Vals.drop n t
theorem Vals.none_of:∀{xs:List V} {us:List Value} {i:Nat},Vals xs us->xs[i]?=none->us[i]?=none:=λ{xs us i} r e=>by
 have h1:=r.length;have h2:xs.length<=i:=aar.mp e;exact aar.mpr li
def lR:Option V->Option Value->Prop
 | some v,some u=>RelV v u
 | none,none=>True
 | _,_=>False
def KV{κ:Type}:List (κ×V)->List (κ×Value)->Prop:=Paired λ(p:κ×V) (q:κ×Value)=>p.1=q.1/\RelV p.2 q.2
def kV:Key->V
 | .inl i=>.int i
 | .inr x=>.str x
inductive HO where
  | lst (xs:List V)
  | tup (xs:List V)
  | dK (iu:List (Key×V)) | dT (iu:List (List Key×V))
  | set (S:Int->Bool) (n:Nat)
  | ins (C dx:Addr) (fs:List (Str×V))
  | own (x:Addr)
  | xd (fs:List (Str×V))
  | met (f x:Addr)
  | NL (lo hi:Int)
  | nH (o:Obj) (u:HO)
  | eZ (ps:Array Value)
  | ext (φ:Heap->Prop)
abbrev Hp:=Addr->Option HO
def upd(H:Hp)(a:Addr)(o:HO):Hp:=λb=>if b=a then some o else H b
theorem au{H:Hp}{a:Addr}{o:HO}:upd H a o a=some o:=by unfold upd;rw[if_pos rfl]
theorem aj{H:Hp}{a b:Addr}{o:HO}(h:b≠a):upd H a o b=H b:=by unfold upd;rw[if_neg h]
theorem nj{H:Hp}{a:Addr}{o u:HO}:upd (upd H a o) a u=upd H a u:=by
 funext b;unfold upd;split <;> rfl
theorem gj{H:Hp}{a b:Addr}{o u:HO}(h:H a=some o)(h':H b=some u)(d:o≠u):a≠b:=by
 intro e;subst e;rw[h]at h';exact d (iz h')
theorem ba{H:Hp}{a b:Addr}{o:HO}(h:H a=some o)(h':H b=none):a≠b:=by
 intro e;subst e;rw[h]at h';cases h'
section
variable(P:Program)(w:World)
def gE(H:Hp)(h:Heap)(a:Addr):HO->Prop
 | .lst xs=>xs.length<=aP/\∃(ak:List Value) (n:Nat),Vals xs ak/\h.get? a=some { cls:=.type "list",data:=.seq ak.toArray n }
 | .tup xs=>xs.length<=aP/\∃ak:List Value,Vals xs ak/\IsTup h a ak.toArray
 | .dK iu=>iu.length<=aP/\(a == sysModules)=false/\∃vs,KV iu vs/\h.DictOf (Ud P w) a vs
 | .dT iu=>iu.length<=aP/\(a == sysModules)=false/\∃xs:List (List Key×Addr×Value),Paired (λ(p:List Key×V) (q:List Key×Addr×Value)=>p.1=q.1/\H q.2.1=some (.tup (p.1.map kV))/\RelV p.2 q.2.2) iu xs/\
   ∃o es ep,h.get? a=some o/\o.ExactDict/\o.data=.dict es ep/\es.toList=xs.map (entryOfKey (tupleKind (Ud P w)))/\(xs.map (·.1)).Nodup
 | .set S n=>h.SetOf (intKind P w) a S n
 | .ins C dx fs=>H dx=some (.own a)/\fs.length<=1000/\dx≠a/\h.get? a=some (W.instObj C dx)/\
   ∃mA,h.Ns1 dx mA/\(∀f,lR (fs.lookup f) (mA f))/\PySem.Within mA (fs.map (·.1))
 | .own _=>∃o,h.get? a=some o
 | .xd fs=>∃mA,h.Ns1 a mA/\∀f,lR (fs.lookup f) (mA f)
 | .NL lo hi=>∃t u v,h.get? a=some { cls:=.type "range",data:=.fields #[.int lo t,.int hi u,.int 1 v] }
 | .nH o u=>h.get? a=some o/\gE H h a u
 | .eZ ps=>h.get? a=some { cls:=.none,data:=.fields ps }
 | .met f x=>h.get? a=some (W.methodObj (.ref f) (.ref x))
 | .ext φ=>φ h/\(∃o,h.get? a=some o)/\∀h1 h2:Heap,φ h1->(∀o,h1.get? a=some o->h2.get? a=some o)->φ h2
def eX(H:Hp)(h:Heap):Prop:=∀a o,H a=some o->gE P w H h a o
end
section
variable{P:Program}{w:World}{H H':Hp}{h h':Heap}{a:Addr}{o:HO}
theorem gE.lt(x:gE P w H h a o):a<h.objs.size:=by
 cases o with
 | lst xs=>obtain⟨_,_,_,_,e⟩:=x;exact bJ e
 | tup xs=>obtain⟨_,_,_,p⟩:=x;exact p.lt
 | dK iu=>obtain⟨_,_,_,_,o,_,_,e,_⟩:=x;exact bJ e
 | dT iu=>obtain⟨_,_,_,_,o,_,_,e,_⟩:=x;exact bJ e
 | set S n=>obtain⟨o,_,_,_,e,_⟩:=x;exact bJ e
 | ins C dx fs=>obtain⟨_,_,_,e,_⟩:=x;exact bJ e
 | own y=>obtain⟨_,e⟩:=x;exact bJ e
 | xd fs=>obtain⟨_,⟨_,_,_,e,_⟩,_⟩:=x;exact bJ e
 | NL lo hi=>obtain⟨_,_,_,e⟩:=x;exact bJ e
 | nH ob u=>obtain⟨e,_⟩:=x;exact bJ e
 | eZ ps=>exact bJ (show h.get? a=some _ from x)
 | met f y=>exact bJ (show h.get? a=some _ from x)
 | ext φ=>obtain⟨_,⟨_,e⟩,_⟩:=x;exact bJ e
theorem Paired.b8{α β:Type}{F G:α->β->Prop}:∀{l₁:List α} {l₂:List β},Paired F l₁ l₂->(∀a b,F a b->G a b)->Paired G l₁ l₂
 | _,_,.nil,_=>.nil
 | _,_,.cons r t,f=>.cons (f _ _ r) (Paired.b8 t f)
theorem gE.pG(x:gE P w H h a o)(k:∀b u,(b=a\/H b=some (.own a))->h.get? b=some u->h'.get? b=some u)
  (ho:∀b,H b=some (.own a)->H' b=some (.own a)) (ht:∀b xs,H b=some (.tup xs)->H' b=some (.tup xs)):gE P w H' h' a o:=by
 induction o with
 | lst xs=>obtain⟨z,ak,n,r,e⟩:=x;exact⟨z,ak,n,r,k _ _ (.inl rfl) e⟩
 | tup xs=>obtain⟨z,ak,r,ob,e,c⟩:=x;exact⟨z,ak,r,ob,k _ _ (.inl rfl) e,c⟩
 | dK iu=>obtain⟨z,y,vs,r,ob,es,ep,e,c⟩:=x;exact⟨z,y,vs,r,ob,es,ep,k _ _ (.inl rfl) e,c⟩
 | dT iu=>
  refine gH x λz y aa=>?_;refine ah aa λxs r aa=>?_;refine eV aa λob es ep e c=>?_;exact⟨z,y,xs,Paired.b8 r λp q z=>⟨z.1,ht _ _ z.2.1,z.2.2⟩,ob,es,ep,k _ _ (.inl rfl) e,c⟩
 | set S n=>obtain⟨ob,es,ep,t,e,c⟩:=x;exact⟨ob,es,ep,t,k _ _ (.inl rfl) e,c⟩
 | ins C dx fs=>
  obtain⟨d,z,ne,e,aa⟩:=x;refine ah aa λmA aa r=>?_;refine eV aa λod es ep e2 c=>?_;exact⟨ho _ d,z,ne,k _ _ (.inl rfl) e,mA,⟨od,es,ep,k _ _ (.inr d) e2,c⟩,r⟩
 | own y=>obtain⟨ob,e⟩:=x;exact⟨ob,k _ _ (.inl rfl) e⟩
 | xd fs=>obtain⟨mA,⟨od,es,ep,e,c⟩,r⟩:=x;exact⟨mA,⟨od,es,ep,k _ _ (.inl rfl) e,c⟩,r⟩
 | NL lo hi=>obtain⟨t,u,v,e⟩:=x;exact⟨t,u,v,k _ _ (.inl rfl) e⟩
 | nH ob u ih=>obtain⟨e,q⟩:=x;exact⟨k _ _ (.inl rfl) e,ih q⟩
 | eZ ps=>
  have e:h.get? a=some { cls:=.none,data:=.fields ps }:=x;show h'.get? a=some { cls:=.none,data:=.fields ps };exact k a _ (.inl rfl) e
 | met f y=>
  have e:h.get? a=some (W.methodObj (.ref f) (.ref y)):=x;show h'.get? a=some (W.methodObj (.ref f) (.ref y));exact k a _ (.inl rfl) e
 | ext φ=>obtain⟨p,⟨o,e⟩,st⟩:=x;exact⟨st _ _ p λo q=>k _ _ (.inl rfl) q,⟨o,k _ _ (.inl rfl) e⟩,st⟩
theorem eX.lt(x:eX P w H h)(e:H a=some o):a<h.objs.size:=(x a o e).lt
theorem eX.fresh(x:eX P w H h)(e:h.objs.size<=a):H a=none:=by
 cases q:H a with
 | none=>rfl
 | some u=>exact absurd (eK (x.lt q) e) (iQ _)
theorem eX.kept(x:eX P w H h)(k:∀b u,h.get? b=some u->h'.get? b=some u):eX P w H h':=λa o e=>
 (x a o e).pG (λb u _ q=>k b u q) (λ_ q=>q) λ_ _ q=>q
theorem eX.laid(x:eX P w H h)(k:∀b u,h.get? b=some u->h'.get? b=some u)(hp:h.objs.size<=a)(new:gE P w (upd H a o) h' a o):eX P w (upd H a o) h':=λb u e=>by
 have hn:=x.fresh hp
 by_cases hb:b=a
 ·subst hb;rw[au]at e;cases e;exact new
 ·rw[aj hb]at e;exact(x b u e).pG (λc v _ q=>k c v q) (λc q=>by rw[aj (ba q hn)];exact q) λc xs q=>by rw[aj (ba q hn)];exact q
end
def Rd(H:Hp)(a:Addr)(u:HO):Prop:=H a=some u\/∃o,H a=some (.nH o u)
theorem Rd.ok{P:Program}{w:World}{H:Hp}{h:Heap}{a:Addr}{u:HO}(r:Rd H a u)(x:eX P w H h):gE P w H h a u:=by
 rcases r with r | ⟨o,r⟩
 ·exact x a u r
 ·refine oA (x a _ r) λ_ q=>?_;exact q
def FK:Option HO->Prop
 | some (.lst _)=>True
 | some (.dK _)=>True
 | some (.dT _)=>True
 | some (.set _ _)=>True
 | some (.ins _ _ _)=>True
 | some (.ext _)=>True
 | _=>False
section
variable{P:Program}{w:World}{H:Hp}{h h':Heap}{x e:Addr}{o':HO}
theorem eX.write(ok:eX P w H h)(mu:FK (H x))(he:e=x\/H e=some (.own x))(k:∀b u,b≠e->h.get? b=some u->h'.get? b=some u)(Ai:∃u,h'.get? e=some u)
  (new:gE P w (upd H x o') h' x o'):eX P w (upd H x o') h':=λb u q=>by
 have W0:∀c y,H c=some (.own y)->c≠x:=λc y r z=>by subst z;rw[r]at mu;exact mu
 have aop:∀c xs,H c=some (.tup xs)->c≠x:=λc xs r z=>by subst z;rw[r]at mu;exact mu
 by_cases hb:b=x
 ·subst hb;rw[au]at q;cases q;exact new
 ·rw[aj hb]at q
  by_cases qX:b=e
  ·have q':H b=some (.own x):=by
    rcases he with z | z
    ·exact absurd (qX.trans z) hb
    ·rw[qX];exact z
   rw[q]at q';cases q';refine oE Ai λv hv=>?_;exact⟨v,by rw[qX];exact hv⟩
  ·refine(ok b u q).pG (λc v hc r=>k c v ?_ r) (λc r=>by rw[aj (W0 c b r)];exact r) λc xs r=>by rw[aj (aop c xs r)];exact r
   rcases hc with rfl | hc
   ·exact qX
   ·rintro rfl;rcases he with z | z
    ·exact W0 c b hc z
    ·rw[hc]at z;cases z;exact hb rfl
end
structure Un(fs ex:List Addr)(H H':Hp)(h h':Heap):Prop where
 keep:∀b o,h.get? b=some o->H b=none->b∉fs->b∉ex->h'.get? b=some o
 slot:∀b o,h.get? b=some o->H b=none->b∈fs->b∉ex->∃sl,h'.get? b=some { o with slots:=sl }
 free:∀b o,h.get? b=some o->H b=none->b∉ex->H' b=none
 there:∀b o,h.get? b=some o->b∉ex->∃o',h'.get? b=some o'
 og:∀b xs,H b=some (.tup xs)->H' b=some (.tup xs)
 nA:∀b o u,H b=some (.nH o u)->H' b=some (.nH o u)
 nv:∀b ps,H b=some (.eZ ps)->∃more,H' b=some (.eZ (ps++more))
section
variable{fs lY ex ex':List Addr}{H H1 H2:Hp}{h h1 h2 h':Heap}{a x e:Addr}{o:HO}
theorem Un.any(u:Un fs ex H H1 h h1){b:Addr}{ob:Obj}(q:h.get? b=some ob)(n:H b=none)(hx:b∉ex):∃sl,h1.get? b=some { ob with slots:=sl }:=by
 by_cases hb:b∈fs
 ·exact u.slot b ob q n hb hx
 ·exact⟨ob.slots,u.keep b ob q n hb hx⟩
theorem Un.kept(k:∀b u,h.get? b=some u->h'.get? b=some u):Un fs ex H H h h':=
 ⟨λb ob q _ _ _=>k b ob q,λb ob q _ _ _=>⟨ob.slots,k b ob q⟩,λ_ _ _ n _=>n,λb ob q _=>⟨ob,k b ob q⟩,λ_ _ q=>q,λ_ _ _ q=>q,λ_ ps q=>⟨#[],by rw[q];simp⟩⟩
theorem Un.refl:Un fs ex H H h h:=Un.kept λ_ _ q=>q
theorem Un.laid(k:∀b u,h.get? b=some u->h'.get? b=some u)(hp:h.objs.size<=a)(hn:H a=none):Un fs ex H (upd H a o) h h' where
 keep:=λb u q _ _ _=>k b u q
 slot:=λb u q _ _ _=>⟨u.slots,k b u q⟩
 free:=λb u q n _=>by rw[aj (eO (eK (bJ q) hp))];exact n
 there:=λb u q _=>⟨u,k b u q⟩
 og:=λb xs q=>by rw[aj (ba q hn)];exact q
 nA:=λb u xs q=>by rw[aj (ba q hn)];exact q
 nv:=λb ps q=>⟨#[],by rw[aj (ba q hn),q];simp⟩
theorem Un.write(mu:FK (H x))(he:e=x\/H e=some (.own x))(k:∀b u,b≠e->h.get? b=some u->h'.get? b=some u)(Ai:∃u,h'.get? e=some u):Un fs ex H (upd H x o) h h':=by
 have hx:∀b,H b=none->b≠x:=λb n z=>by subst z;rw[n]at mu;exact mu
 have hb:∀b,H b=none->b≠e:=λb n z=>by
  subst z;rcases he with r | r
  ·exact hx b n r
  ·rw[n]at r;cases r
 have hm:∀b u,H b=some u->¬FK (some u)->b≠x:=λb u q nm z=>by subst z;rw[q]at mu;exact nm mu
 refine⟨λb u q n _ _=>k b u (hb b n) q,λb u q n _ _=>⟨u.slots,k b u (hb b n) q⟩,λb u q n _=>by rw[aj (hx b n)];exact n,λb u q _=>?_,λb xs q=>by rw[aj (hm b _ q λz=>z)];exact q,λb u xs q=>by rw[aj (hm b _ q λz=>z)];exact q,λb ps q=>⟨#[],by rw[aj (hm b _ q λz=>z),q];simp⟩⟩
 by_cases qX:b=e
 ·subst qX;exact Ai
 ·exact⟨u,k b u qX q⟩
end
def Fu(h:Heap)(H:Hp):List Addr:=(List.range h.objs.size).filter λa=>(H a).isSome
def si(h:Heap)(H:Hp):Heap:=W.hideAll h (Fu h H)
theorem ae5(h:Heap)(H:Hp):(si h H).objs.size=h.objs.size:=W.hideAll_size _ _
theorem agR{h:Heap}{H:Hp}{b:Addr}{o:Obj}(e:h.get? b=some o)(n:H b=none):(si h H).get? b=some o:=
 W.hideAll_get _ e λhm=>by
  have q:(H b).isSome=true:=(rm.mp hm).2;rw[n]at q;simp at q
theorem aiD{h:Heap}{H:Hp}{b:Addr}{o:Obj}(e:(si h H).get? b=some o):h.get? b=some o/\H b=none:=by
 have e':h.get? b=some o:=W.of_hideAll (Fu h H) e;refine⟨e',?_⟩;cases q:H b with
 | none=>rfl
 | some x=>
  have hm:b∈Fu h H:=rm.mpr ⟨AF.mpr (bJ e'),by simp[q]⟩;have z:(si h H).get? b=none:=W.hideAll_none (Fu h H) hm;rw[z]at e;cases e
def Eb(g h:Heap)(L:Addr):List (Addr×Obj):=(List.range h.objs.size).filterMap λa=>if a=L\/(g.get? a).isSome=true then none else (h.get? a).map λo=>(a,o)
theorem adk{g h:Heap}{L a:Addr}{o:Obj}(h1:a≠L)(h2:g.get? a=none)(h3:h.get? a=some o):(a,o)∈Eb g h L:=
 Hx.mpr ⟨a,AF.mpr (bJ h3),by simp[h1,h2,h3]⟩
theorem abC{g h:Heap}{L:Addr}{p:Addr×Obj}(hp:p∈Eb g h L):p.1≠L/\g.get? p.1=none/\h.get? p.1=some p.2:=by
 refine ah (Hx.mp hp) λb _ e=>?_
 split at e
 ·cases e
 ·rename_i hn
  cases q:h.get? b with
  | none=>rw[q]at e;simp at e
  | some u=>
   rw[q]at e;simp only[Option.map_some,HD]at e;subst e;refine⟨λz=>hn (.inl z),?_,q⟩;show g.get? b=none;cases r:g.get? b with
   | none=>rfl
   | some v=>exact(hn (.inr (by simp[r]))).elim
def rest(g h:Heap)(L d:Addr):List (Addr×Obj):=(Eb g h L).filter λp=>decide (p.1≠d)
theorem T5{g h:Heap}{L d:Addr}:∀p∈rest g h L d,p.1≠d:=λp hp=>of_decide_eq_true (rm.mp hp).2
theorem agH{g h:Heap}{L d a:Addr}{o:Obj}(h1:a≠L)(h2:g.get? a=none)(h3:h.get? a=some o)(h4:a≠d):(a,o)∈rest g h L d:=
 rm.mpr ⟨adk h1 h2 h3,decide_eq_true h4⟩
theorem agz{g h:Heap}{L:Addr}:News g L h (Eb g h L):=λp hp=>let ⟨a,b,c⟩:=abC hp;⟨c,a,b⟩
theorem acL{g h h':Heap}{L d:Addr}{m:Str->Option Value}(k:∀b o,g.get? b=some o->h.get? b=some o)(F:Fr g L h' m)(N:News g L h' (rest g h L d)) :
  ∀b o,b≠L->b≠d->h.get? b=some o->h'.get? b=some o:=λb o h1 h2 e=>by
 cases q:g.get? b with
 | some u=>
  have:=k b u q;rw[e]at this;cases this;exact F.keep b _ q
 | none=>exact(N (b,o) (agH h1 q e h2)).1
structure Mod(K:W.Frag)(mg:Str->Option Value)(base:Heap):Prop where
 oq:K.In base
 glob:base.Ns fQ mg
 blt:∃mb,base.Ns rF mb/\∀x:Str,x ≠ "__name__"->mb x=wO x
 nolimit:base.NoLimit
structure Cx where
 prog:Program
 w:World
 K:W.Frag
 mg:Str->Option Value
 base:Heap
 A:Around
 N:List Str
 s₀:Shared
 H₀:Hp
 env:Env
 outer:List Env
 stack:List Env
 ex:List Addr
 fn:Str->Bool
 calm:Bool
 pn:List (Addr×Obj)
 xe:Value->Shared->Prop
def gx(l:List Env):List Addr:=l.filterMap (·.frame)
abbrev Cx.fs(X:Cx):List Addr:=gx X.outer
def FE(sc:Scope)(x:Str):Prop:=sc.names.lookup x=some .local\/sc.names.lookup x=some .cell\/sc.names.lookup x=some .free
def Loc(sc:Scope)(x:Str):Prop:=sc.names.lookup x=some .local\/sc.names.lookup x=some .cell
def Look(env:Env)(h:Heap)(m:Str->Option Value)(x:Str)(u:Value):Prop:=
 (env.kindOf x=some .local/\m x=some u)\/((env.kindOf x=some .cell\/env.kindOf x=some .free)/\∃c,env.cells.lookup x=some c/\h.IsCell c (some u))
structure Cx.Ok(X:Cx):Prop where
 mod:Mod X.K X.mg X.base
 kind:X.env.scope.kind=.function
 glob:X.env.globals=fQ
 blt:X.env.builtins=rF
 above:X.s₀.heap.objs.size<=X.env.locals
 inj:∀x y c,X.env.cells.lookup x=some c->X.env.cells.lookup y=some c->x=y
 has:∀x,(X.env.kindOf x=some .cell\/X.env.kindOf x=some .free)->∃c,X.env.cells.lookup x=some c
 uh:∀x c,X.fn x=true->X.env.cells.lookup x=some c->X.s₀.heap.objs.size<=c
 hd:X.calm=true->X.A.handled=none
 frames:X.A.frames=some X.stack
 vQ:X.stack=X.outer\/(X.stack=X.env::X.outer/\X.env.frame=some X.env.locals)
 sD:∀b∈X.ex,b≠X.env.locals/\∀x c,X.env.cells.lookup x=some c->c≠b
 bs:∀b o,X.base.get? b=some o->X.s₀.heap.get? b=some o/\X.H₀ b=none
 lV:X.base.objs.size<=X.s₀.heap.objs.size
 tY:∀b o,X.base.get? b=some o->b∉X.ex
 sj:∀b∈X.ex,b∉X.fs
 lO:X.s₀.heap.FunFrames X.base X.outer
 qH:∀b∈X.fs,X.H₀ b=none
structure Inv(X:Cx)(p_:List (Addr×Obj))(σ:List (Option V))(H:Hp)(s:Shared):Prop where
 ok:X.Ok
 os:s.os=X.s₀.os
 bare:AllBare s.gens
 base:Un X.fs X.ex X.H₀ H X.s₀.heap s.heap
 loc:∃m,s.heap.Ns X.env.locals m/\∀(i:Nat) (x:Str) (v:V),X.N[i]?=some x->σ[i]?=some (some v)->FE X.env.scope x->∃u,RelV v u/\Look X.env s.heap m x u
 cell:∀x c,X.env.cells.lookup x=some c->∃v,s.heap.IsCell c v
 free:H X.env.locals=none
 jy:∀x c,X.env.cells.lookup x=some c->H c=none
 pin:∀p∈X.pn++p_,s.heap.get? p.1=some p.2/\H p.1=none/\p.1≠X.env.locals/\p.1∉X.fs/\∀v,p.2.data≠.cell v
 aG:eX X.prog X.w H s.heap
 len:σ.length=X.N.length
section
variable{X:Cx}{p_:List (Addr×Obj)}{σ:List (Option V)}{H H':Hp}{s:Shared}{h':Heap}
theorem Cx.Ok.an'(ok:X.Ok){b:Addr}{o:Obj}(e:X.base.get? b=some o):b∉X.fs:=λhb=>by
 have:=(ok.lO.mem hb).1;rw[e]at this;cases this
theorem Inv.bs(I:Inv X p_ σ H s):∀b o,X.base.get? b=some o->s.heap.get? b=some o/\H b=none:=λb o e=>
 ⟨I.base.keep b o (I.ok.bs b o e).1 (I.ok.bs b o e).2 (I.ok.an' e) (I.ok.tY b o e),I.base.free b o (I.ok.bs b o e).1 (I.ok.bs b o e).2 (I.ok.tY b o e)⟩
theorem Inv.bk(I:Inv X p_ σ H s):∀b o,X.base.get? b=some o->s.heap.get? b=some o:=λb o e=>(I.bs b o e).1
theorem Inv.mod(I:Inv X p_ σ H s):Mod X.K X.mg X.base:=I.ok.mod
theorem Inv.cH(I:Inv X p_ σ H s):X.K.In s.heap:=I.ok.mod.oq.keeps I.bk
theorem Inv.nolimit(I:Inv X p_ σ H s):s.heap.NoLimit:=I.ok.mod.nolimit.keeps I.bk
theorem Inv.fr(I:Inv X p_ σ H s):∃m,Fr X.base X.env.locals s.heap m:=
 let ⟨m,hn,_⟩:=I.loc
 ⟨m,hn,I.bk,cu I.ok.lV I.ok.above⟩
theorem Inv.lt(I:Inv X p_ σ H s):X.env.locals<s.heap.objs.size:=let ⟨_,hn,_⟩:=I.loc;hn.lt
theorem Inv.sz(I:Inv X p_ σ H s):X.s₀.heap.objs.size<=s.heap.objs.size:=cu I.ok.above (cO I.lt)
theorem Inv.WG(I:Inv X p_ σ H s){a:Addr}(h:s.heap.objs.size<=a):a∉X.fs:=λhb=>by
 refine oA (I.ok.lO.mem hb) λ_ aa=>?_;refine ah aa λo ho _=>?_;exact absurd (eK (bJ ho) (cu I.sz h)) (iQ _)
theorem Inv.ug(I:Inv X p_ σ H s):∀x c,X.env.cells.lookup x=some c->c≠X.env.locals:=λx c e z=>by
 refine a9 (I.cell x c e) λv o ho hd=>?_;refine ah I.loc λm aa _=>?_;refine kA aa λo' es ep qQ yv _=>?_;rw[z,qQ]at ho;cases ho;rw[yv]at hd;cases hd
theorem Inv.lO(I:Inv X p_ σ H s):s.heap.FunFrames X.base X.outer:=by
 have all:∀(l:List Env),(∀b∈gx l,b∈X.fs)->X.s₀.heap.FunFrames X.base l->s.heap.FunFrames X.base l:=by
  intro l
  induction l with
  | nil=>intro _ _;trivial
  | cons env r ih=>
   intro hs hl;refine gH hl λhk aa hr=>?_;refine nW aa λL o hf hn ho hd=>?_;have hL:L∈X.fs:=hs L (by unfold gx;rw[Dc,hf];exact dE);refine oE (I.base.slot L o ho (I.ok.qH L hL) hL λz=>I.ok.sj L z hL) λsl e=>?_;exact⟨hk,⟨L,_,hf,hn,e,hd⟩,ih (λb hb=>hs b (by unfold gx;rw[Dc,hf];exact dn _ hb)) hr⟩
 exact all X.outer (λ_ hb=>hb) I.ok.lO
theorem Inv.stack(I:Inv X p_ σ H s):s.heap.FunFrames X.base X.stack:=by
 rcases I.ok.vQ with e | ⟨e,hf⟩
 ·rw[e];exact I.lO
 ·rw[e];refine ah I.loc λm hn _=>?_;refine .cons (by rw[I.ok.kind];decide) hf hn ?_ I.lO;exact aaF (cu I.ok.lV I.ok.above)
theorem Inv.Bg(I:Inv X p_ σ H s):∀b∈gx X.stack,b∈X.env.locals::X.fs:=λb hb=>by
 rcases I.ok.vQ with e | ⟨e,hf⟩
 ·rw[e]at hb;exact dn _ hb
 ·rw[e]at hb;unfold gx at hb;rw[Dc,hf]at hb;exact hb
theorem Inv.DW(I:Inv X p_ σ H s):∀b∈gx X.stack,H b=none:=λb hb=>by
 rcases bq.mp (I.Bg b hb)with e | hb
 ·rw[e];exact I.free
 ·refine oA (I.ok.lO.mem hb) λ_ aa=>?_;refine ah aa λo ho _=>?_;exact I.base.free b o ho (I.ok.qH b hb) λz=>I.ok.sj b z hb
theorem Inv.step{g':Array GenState}{t':Nat}{d':Drawn}{ch:List Addr}(I:Inv X p_ σ H s)
  (ja:∀b∈ch,(b∈X.ex\/X.s₀.heap.objs.size<=b)/\b≠X.env.locals/\(∀x c,X.env.cells.lookup x=some c->c≠b)/\∀p∈X.pn++p_,p.1≠b)
  (keep:∀b o,b≠X.env.locals->b∉X.fs->b∉ch->s.heap.get? b=some o->H b=none->h'.get? b=some o)
  (slot:∀b o,b≠X.env.locals->b∈X.fs->b∉ch->s.heap.get? b=some o->H b=none->∃sl,h'.get? b=some { o with slots:=sl }) (free:∀b o,b∉ch->s.heap.get? b=some o->H b=none->H' b=none)
  (there:∀b o,b∉ch->s.heap.get? b=some o->∃o',h'.get? b=some o')
  (og:∀b xs,H b=some (.tup xs)->H' b=some (.tup xs)) (nA:∀b o u,H b=some (.nH o u)->H' b=some (.nH o u)) (nv:∀b ps,H b=some (.eZ ps)->∃more,H' b=some (.eZ (ps++more)))
  (ns:∀m,s.heap.Ns X.env.locals m->h'.Ns X.env.locals m) (aG:eX X.prog X.w H' h') (hg:AllBare g') :
  Inv X p_ σ H' { s with heap:=h',gens:=g',drawn:=d',toks:=t' }:=by
 have YT:∀b o,X.s₀.heap.get? b=some o->b≠X.env.locals:=λb o e=>eO (eK (bJ e) I.ok.above)
 have yg:∀b o,X.s₀.heap.get? b=some o->b∉X.ex->b∉ch:=λb o e hx hb=>by
  rcases(ja b hb).1 with z | z
  ·exact hx z
  ·exact absurd (eK (bJ e) z) (iQ _)
 have cellK:∀x c,X.env.cells.lookup x=some c->∀v,s.heap.IsCell c v->h'.IsCell c v:=λx c e v ⟨o,ho,hd⟩=>by
  have wm:c∉ch:=λz=>(ja c z).2.2.1 x c e rfl
  by_cases hc:c∈X.fs
  ·refine oE (slot c o (I.ug x c e) hc wm ho (I.jy x c e)) λsl q=>?_;exact⟨_,q,hd⟩
  ·exact⟨o,keep c o (I.ug x c e) hc wm ho (I.jy x c e),hd⟩
 refine⟨I.ok,I.os,hg,⟨λb o e n hb hx=>?_,λb o e n hb hx=>?_,λb o e n hx=>?_,λb o e hx=>?_,λb xs e=>og b xs (I.base.og b xs e),λb o xs e=>nA b o xs (I.base.nA b o xs e),λb ps e=>?_⟩,?_,λx c e=>?_,?_,λx c e=>?_,λp hp=>?_,aG,I.len⟩
 ·exact keep b o (YT b o e) hb (yg b o e hx) (I.base.keep b o e n hb hx) (I.base.free b o e n hx)
 ·refine oE (I.base.slot b o e n hb hx) λsl e1=>?_;refine oE (slot b _ (YT b o e) hb (yg b o e hx) e1 (I.base.free b o e n hx)) λwc e2=>?_;exact⟨wc,e2⟩
 ·refine oE (I.base.there b o e hx) λo' e1=>?_;exact free b o' (yg b o e hx) e1 (I.base.free b o e n hx)
 ·refine oE (I.base.there b o e hx) λo' e1=>?_;exact there b o' (yg b o e hx) e1
 ·refine oE (I.base.nv b ps e) λm1 e1=>?_;refine oE (nv b _ e1) λm2 e2=>?_;exact⟨m1++m2,by rw[e2,Array.append_assoc]⟩
 ·refine ah I.loc λm hn hl=>?_;refine⟨m,ns m hn,λi x v e1 e2 e3=>?_⟩;refine ah (hl i x v e1 e2 e3) λu r l=>?_;refine⟨u,r,?_⟩;rcases l with l | ⟨k,c,e,z⟩
  ·exact .inl l
  ·exact .inr ⟨k,c,e,cellK x c e _ z⟩
 ·refine oE (I.cell x c e) λv z=>?_;exact⟨v,cellK x c e v z⟩
 ·refine ah I.loc λm aa _=>?_;refine eV aa λo _ _ ho _=>?_;exact free _ o (λz=>(ja _ z).2.1 rfl) ho I.free
 ·refine a9 (I.cell x c e) λv o ho hd=>?_;exact free c o (λz=>(ja c z).2.2.1 x c e rfl) ho (I.jy x c e)
 ·obtain⟨e,n,ne,nf,d⟩:=(I.pin p hp);have wm:p.1∉ch:=λz=>(ja p.1 z).2.2.2 p hp rfl;exact⟨keep p.1 p.2 ne nf wm e n,free p.1 p.2 wm e n,ne,nf,d⟩
theorem Inv.un{t':Nat}(I:Inv X p_ σ H s)(u:Un X.fs [] H H' s.heap h')(aG:eX X.prog X.w H' h'):Inv X p_ σ H' { s with heap:=h',toks:=t' }:=by
 refine ah (id I.loc) λm aa _=>?_;refine eV aa λo es ep ho r=>?_;refine oE (u.any ho I.free (by simp)) λsl hL=>?_
 exact I.step (g':=s.gens) (d':=s.drawn) (ch:=[]) (λ_ z=>nomatch z) (λb o _ hb _ e n=>u.keep b o e n hb (by simp)) (λb o _ hb _ e n=>u.slot b o e n hb (by simp)) (λb o _ e n=>u.free b o e n (by simp)) (λb o _ e=>u.there b o e (by simp)) u.og u.nA u.nv (λm' hm=>by
  refine eV hm λo' G' Ha qQ r'=>?_;rw[ho]at qQ;cases qQ;exact⟨_,G',Ha,hL,r'⟩) aG I.bare
theorem Inv.call{g':Array GenState}{t':Nat}{d':Drawn}{ch:List Addr}(I:Inv X p_ σ H s)(u:Un (gx X.stack) ch H H' s.heap h')(aG:eX X.prog X.w H' h')(hg:AllBare g')
  (ja:∀b∈ch,(b∈X.ex\/X.s₀.heap.objs.size<=b)/\b≠X.env.locals/\(∀x c,X.env.cells.lookup x=some c->c≠b)/\∀p∈X.pn++p_,p.1≠b) :
  Inv X p_ σ H' { s with heap:=h',gens:=g',drawn:=d',toks:=t' }:=by
 refine ah (id I.loc) λm aa _=>?_;refine eV aa λo es ep ho r=>?_;refine oE (u.any ho I.free λz=>(ja _ z).2.1 rfl) λsl hL=>?_
 exact I.step (ch:=ch) ja (λb o hL hb hc e n=>u.keep b o e n (λz=>(bq.mp (I.Bg b z)).elim hL hb) hc) (λb o _ _ hc e n=>u.any e n hc) (λb o hc e n=>u.free b o e n hc) (λb o hc e=>u.there b o e hc) u.og u.nA u.nv (λm' hm=>by
  refine eV hm λo' G' Ha qQ r'=>?_;rw[ho]at qQ;cases qQ;exact⟨_,G',Ha,hL,r'⟩) aG hg
theorem Inv.turned{t':Nat}{it:Addr}(I:Inv X p_ σ H s)(k:∀b o,b≠it->s.heap.get? b=some o->h'.get? b=some o)(hn:H it=none)(hL:it≠X.env.locals)
  (h1:it∈X.ex\/X.s₀.heap.objs.size<=it) (h2:∀x c,X.env.cells.lookup x=some c->c≠it) (h3:∀p∈X.pn++p_,p.1≠it):Inv X p_ σ H { s with heap:=h',toks:=t' }:=by
 have YS:∀b u,H b=some u->b≠it:=λb u e z=>by rw[z,hn]at e;cases e
 refine I.step (g':=s.gens) (d':=s.drawn) (ch:=[it]) (λb hb=>?_) (λb o _ _ hc e _=>k b o (λz=>hc (by simp[z])) e) (λb o _ _ hc e _=>⟨o.slots,k b o (λz=>hc (by simp[z])) e⟩) (λ_ _ _ _ n=>n)
  (λb o hc e=>⟨o,k b o (λz=>hc (by simp[z])) e⟩) (λ_ _ e=>e) (λ_ _ _ e=>e) (λb ps e=>⟨#[],by rw[e];simp⟩) (λm hm=>?_) (λb u e=>?_) I.bare
 ·have e:b=it:=by simpa using hb
  subst e;exact⟨h1,hL,h2,h3⟩
 ·refine eV hm λo es ep ho r=>?_;exact⟨o,es,ep,k _ o (dU hL) ho,r⟩
 ·refine(I.aG b u e).pG (λc v hc q=>k c v ?_ q) (λ_ q=>q) λ_ _ q=>q;rcases hc with z | z
  ·rw[z];exact YS b u e
  ·exact YS c _ z
theorem Inv.tok(I:Inv X p_ σ H s)(t:Nat):Inv X p_ σ H { s with toks:=t }:=I.un (h':=s.heap) (t':=t) Un.refl I.aG
theorem Inv.kept{t':Nat}(I:Inv X p_ σ H s)(k:∀b u,s.heap.get? b=some u->h'.get? b=some u):Inv X p_ σ H { s with heap:=h',toks:=t' }:=I.un (Un.kept k) (I.aG.kept k)
theorem Inv.laid{a:Addr}{o:HO}{t':Nat}(I:Inv X p_ σ H s)(k:∀b u,s.heap.get? b=some u->h'.get? b=some u)(hp:s.heap.objs.size<=a)(new:gE X.prog X.w (upd H a o) h' a o) :
  Inv X p_ σ (upd H a o) { s with heap:=h',toks:=t' }:=I.un (Un.laid k hp (I.aG.fresh hp)) (I.aG.laid k hp new)
theorem Inv.write{x e:Addr}{o:HO}{t':Nat}(I:Inv X p_ σ H s)(mu:FK (H x))(he:e=x\/H e=some (.own x))(k:∀b u,b≠e->s.heap.get? b=some u->h'.get? b=some u)(Ai:∃u,h'.get? e=some u)
  (new:gE X.prog X.w (upd H x o) h' x o):Inv X p_ σ (upd H x o) { s with heap:=h',toks:=t' }:=I.un (Un.write mu he k Ai) (I.aG.write mu he k Ai new)
theorem Inv.weak{σ':List (Option V)}(I:Inv X p_ σ H s)(hl:σ'.length=σ.length)(w:∀(i:Nat) v,σ'[i]?=some (some v)->σ[i]?=some (some v)):Inv X p_ σ' H s:=
 ⟨I.ok,I.os,I.bare,I.base,let ⟨m,hn,Cs⟩:=I.loc;⟨m,hn,λi x v e1 e2 e3=>Cs i x v e1 (w i v e2) e3⟩,I.cell,I.free,I.jy,I.pin,I.aG,hl.trans I.len⟩
theorem Inv.vh{Wn:List (Addr×Obj)}(I:Inv X p_ σ H s)(h:∀p∈Wn,s.heap.get? p.1=some p.2/\H p.1=none/\p.1≠X.env.locals/\p.1∉X.fs/\∀v,p.2.data≠.cell v):Inv X Wn σ H s:=
 ⟨I.ok,I.os,I.bare,I.base,I.loc,I.cell,I.free,I.jy,λp hp=>(jo.mp hp).elim (λz=>I.pin p (oS _ z)) (h p),I.aG,I.len⟩
theorem JE{N:List Str}(hN:N.Nodup){i j:Nat}{x:Str}(a:N[i]?=some x)(b:N[j]?=some x):i=j:=by
 refine oE (eJ.mp a) λh1 e1=>?_;refine oE (eJ.mp b) λh2 e2=>?_;exact(List.getElem_inj hN).mp (e1.trans e2.symm)
theorem RA{M:Model}{A:Around}{E:Value->Shared->Prop}{i:Nat}{x:Str}{v:V}{u:Value}{Q:Unit->Shared->Prop}(I:Inv X p_ σ H s)(hN:X.N.Nodup)(hi:X.N[i]?=some x)(hx:Loc X.env.scope x)(r:RelV v u)
  (h:∀s',Inv X p_ (σ.set i (some v)) H s'->(∃a,tj a s.heap s'.heap/\(a=X.env.locals\/X.env.cells.lookup x=some a))->Q () s') (hf:X.fn x=true\/X.env.scope.names.lookup x=some .local:=by first | exact .inl rfl | exact .inr rfl | assumption):wpAny M A (storeName X.env x u) Q E s:=by
 refine ah (id I.loc) λm hn hl=>?_;have Nx:(X.env.scope.kind == .class||(X.env.scope.kind == .module&&X.env.locals != X.env.globals))=false:=by rw[I.ok.kind];rfl
 have ZK:i < σ.length:=by rw[I.len];exact(eJ.mp hi).1
 have ug:=I.ug
 have tracked:∀{a:Addr} {h':Heap},(∃o,s.heap.get? a=some o/\H a=none)->tj a s.heap h'->eX X.prog X.w H h':=λ{a h'} ha hs b ob e=>by
  refine ah ha λ_ _ Wq=>?_;refine(I.aG b ob e).pG (λc w' hc q=>(hs.2 c ?_).trans q) (λ_ q=>q) λ_ _ q=>q;rintro rfl;rcases hc with rfl | hc
  ·rw[Wq]at e;cases e
  ·rw[Wq]at hc;cases hc
 rcases hx with hk | hk
 ·refine wpAny_storeName_local hk hn (λh' qR hs=>?_) Nx;refine eV (id hn) λoL _ _ hoL _=>?_;refine h _ ⟨I.ok,I.os,I.bare,⟨λb o e n hb hx=>?_,λb o e n hb hx=>?_,I.base.free,λb o e hx=>?_,I.base.og,I.base.nA,I.base.nv⟩,⟨_,qR,λj y v' e1 e2 e3=>?_⟩,λy c e=>?_,I.free,I.jy,λp hp=>?_,tracked ⟨oL,hoL,I.free⟩ hs,by simpa using I.len⟩ ⟨_,hs,.inl rfl⟩
  ·exact(hs.2 b (eO (eK (bJ e) I.ok.above))).trans (I.base.keep b o e n hb hx)
  ·refine oE (I.base.slot b o e n hb hx) λsl e1=>?_;exact⟨sl,(hs.2 b (eO (eK (bJ e) I.ok.above))).trans e1⟩
  ·refine oE (I.base.there b o e hx) λo' e1=>?_;exact⟨o',(hs.2 b (eO (eK (bJ e) I.ok.above))).trans e1⟩
  ·by_cases hj:j=i
   ·subst hj;rw[hi]at e1;cases e1;rw[mZ ZK]at e2;cases e2;exact⟨u,r,.inl ⟨hk,by simp⟩⟩
   ·rw[Ax (dU hj)]at e2;refine ah (hl j y v' e1 e2 e3) λu' r' q=>?_;refine⟨u',r',?_⟩;rcases q with ⟨k,e⟩ | ⟨k,c,e,z⟩
    ·refine .inl ⟨k,?_⟩;have:y≠x:=λe=>hj (JE hN e1 (e ▸ hi));simp[this,e]
    ·exact .inr ⟨k,c,e,z.sameBut hs (ug y c e)⟩
  ·refine oE (I.cell y c e) λw' z=>?_;exact⟨w',z.sameBut hs (ug y c e)⟩
  ·obtain⟨e,n,ne,nf,d⟩:=(I.pin p hp);exact⟨(hs.2 p.1 ne).trans e,n,ne,nf,d⟩
 ·have OY:X.fn x=true:=by
   rcases hf with z | z
   ·exact z
   ·rw[z]at hk;cases hk
  refine oE (I.ok.has x (.inl hk)) λc hc=>?_;refine oE (I.cell x c hc) λw' z=>?_;refine wpAny_storeName_cell I.ok.kind hk hc z λh' qW hs=>?_;refine ah (id z) λoc yp aoW=>?_;refine h { s with heap:=h' } ⟨I.ok,I.os,I.bare,⟨λb o e n hb hx=>?_,λb o e n hb hx=>?_,I.base.free,λb o e hx=>?_,I.base.og,I.base.nA,I.base.nv⟩,⟨m,hn.sameBut hs (dU (ug x c hc)),λj y v' e1 e2 e3=>?_⟩,λy c' e=>?_,I.free,I.jy,λp hp=>?_,tracked ⟨oc,yp,I.jy x c hc⟩ hs,by simpa using I.len⟩ ⟨c,hs,.inr hc⟩
  ·exact(hs.2 b (eO (eK (bJ e) (I.ok.uh x c OY hc)))).trans (I.base.keep b o e n hb hx)
  ·refine oE (I.base.slot b o e n hb hx) λsl e1=>?_;exact⟨sl,(hs.2 b (eO (eK (bJ e) (I.ok.uh x c OY hc)))).trans e1⟩
  ·refine oE (I.base.there b o e hx) λo' e1=>?_;exact⟨o',(hs.2 b (eO (eK (bJ e) (I.ok.uh x c OY hc)))).trans e1⟩
  ·by_cases hj:j=i
   ·subst hj;rw[hi]at e1;cases e1;rw[mZ ZK]at e2;cases e2;exact⟨u,r,.inr ⟨.inl hk,c,hc,qW⟩⟩
   ·rw[Ax (dU hj)]at e2;refine ah (hl j y v' e1 e2 e3) λu' r' q=>?_;refine⟨u',r',?_⟩;rcases q with q | ⟨k,c',e,z'⟩
    ·exact .inl q
    ·refine .inr ⟨k,c',e,z'.sameBut hs ?_⟩;rintro rfl;exact hj (JE hN e1 (I.ok.inj _ _ _ e hc ▸ hi))
  ·by_cases ZW:c'=c
   ·subst ZW;exact⟨_,qW⟩
   ·refine oE (I.cell y c' e) λw2 z2=>?_;exact⟨w2,z2.sameBut hs ZW⟩
  ·obtain⟨e,n,ne,nf,d⟩:=(I.pin p hp);refine⟨(hs.2 p.1 ?_).trans e,n,ne,nf,d⟩;intro q;rw[q,yp]at e;have q':oc=p.2:=iz e;exact d w' (by rw[<-q'];exact aoW)
theorem Jl{M:Model}{A:Around}{E:Value->Shared->Prop}{i:Nat}{x:Str}{v:V}{u:Value}{Q:Unit->Shared->Prop}(I:Inv X p_ σ H s)(hN:X.N.Nodup)(hi:X.N[i]?=some x)(hx:Loc X.env.scope x)(r:RelV v u)
  (h:∀s',Inv X p_ (σ.set i (some v)) H s'->Q () s') (hf:X.fn x=true\/X.env.scope.names.lookup x=some .local:=by first | exact .inl rfl | exact .inr rfl | assumption):wpAny M A (storeName X.env x u) Q E s:=
 RA I hN hi hx r (λs' I' _=>h s' I') hf
theorem Inv.Mu{s':Shared}{ch:List Addr}(I:Inv X p_ σ H s)(ho:s'.os=s.os)(u:Un (gx X.stack) ch H H' s.heap s'.heap)(aG:eX X.prog X.w H' s'.heap)(hg:AllBare s'.gens)
  (ja:∀b∈ch,(b∈X.ex\/X.s₀.heap.objs.size<=b)/\b≠X.env.locals/\(∀x c,X.env.cells.lookup x=some c->c≠b)/\∀p∈X.pn++p_,p.1≠b):Inv X p_ σ H' s':=by
 obtain⟨h',g',d',t',o'⟩:=s';have e:o'=s.os:=ho;subst e;exact I.call (g':=g') (t':=t') (d':=d') u aG hg ja
end
abbrev XK:=Value->Option Addr->Hp->Prop
abbrev St:=List (Option V)
abbrev VK:=V->Hp->Prop
abbrev TE:=St->Hp->VK->Prop
abbrev TT:=St->Hp->(Bool->Hp->Prop)->Prop
abbrev TA:=St->Hp->(List V->Hp->Prop)->Prop
structure Ends where
 nx:St->Hp->Prop
 rt:VK
 bk:St->Hp->Prop:=λ_ _=>False
 ct:St->Hp->Prop:=λ_ _=>False
abbrev TS:=Ends->St->Hp->Prop
def EP(X:Cx)(p_:List (Addr×Obj))(σ:St)(Q:VK)(u:Value)(s':Shared):Prop:=∃v H',Inv X p_ σ H' s'/\RelV v u/\Q v H'
def TP(X:Cx)(p_:List (Addr×Obj))(σ:St)(Q:Bool->Hp->Prop)(b:Bool)(s':Shared):Prop:=∃H',Inv X p_ σ H' s'/\Q b H'
def AP(X:Cx)(p_:List (Addr×Obj))(σ:St)(Q:List V->Hp->Prop)(us:List Value)(s':Shared):Prop:=∃vs H',Inv X p_ σ H' s'/\Vals vs us/\Q vs H'
def SP(X:Cx)(p_:List (Addr×Obj))(D:Ends)(f:Flow)(s':Shared):Prop:=
 match f with
 | .next=>∃σ' H',Inv X p_ σ' H' s'/\D.nx σ' H'
 | .brk=>∃σ' H',Inv X p_ σ' H' s'/\D.bk σ' H'
 | .cont=>∃σ' H',Inv X p_ σ' H' s'/\D.ct σ' H'
 | .ret u=>∃v σ' H',Inv X p_ σ' H' s'/\RelV v u/\D.rt v H'
def PE(X:Cx)(e:Expr)(t:TE):Prop:=
 ∀(p_:List (Addr×Obj)) (s:Shared) (σ:St) (H:Hp) (Q:VK),Inv X p_ σ H s->t σ H Q->wpAny (model X.prog X.w) X.A (eval e X.env) (EP X p_ σ Q) X.xe s
def PT(X:Cx)(e:Expr)(t:TT):Prop:=
 ∀(p_:List (Addr×Obj)) (s:Shared) (σ:St) (H:Hp) (Q:Bool->Hp->Prop),Inv X p_ σ H s->t σ H Q->wpAny (model X.prog X.w) X.A (isTrue e X.env (eval e X.env)) (TP X p_ σ Q) X.xe s
def PW(X:Cx)(e:Expr)(t:TT):Prop:=
 ∀(whole:Sem Value) (p_:List (Addr×Obj)) (s:Shared) (σ:St) (H:Hp) (Q:Bool->Hp->Prop),Inv X p_ σ H s->t σ H Q->wpAny (model X.prog X.w) X.A (isTrue e X.env whole) (TP X p_ σ Q) X.xe s
theorem PW.pt{X:Cx}{e:Expr}{t:TT}(h:PW X e t):PT X e t:=h _
def PA(X:Cx)(es:List Expr)(t:TA):Prop:=
 ∀(pos:Pos) (p_:List (Addr×Obj)) (s:Shared) (σ:St) (H:Hp) (Q:List V->Hp->Prop),Inv X p_ σ H s->t σ H Q->wpAny (model X.prog X.w) X.A (spliced (backTo pos (cg es X.env))) (AP X p_ σ Q) X.xe s
def PS(X:Cx)(st:Stmt)(t:TS):Prop:=
 ∀(p_:List (Addr×Obj)) (s:Shared) (σ:St) (H:Hp) (D:Ends),Inv X p_ σ H s->t D σ H->wpAny (model X.prog X.w) X.A (exec st X.env) (SP X p_ D) X.xe s
def eE(X:Cx)(st:List Stmt)(t:TS):Prop:=
 ∀(p_:List (Addr×Obj)) (s:Shared) (σ:St) (H:Hp) (D:Ends),Inv X p_ σ H s->t D σ H->wpAny (model X.prog X.w) X.A (execs st X.env) (SP X p_ D) X.xe s
theorem aO{α:Type}{t:Sem α}{Q Q':α->Shared->Prop}{M:Model}{A:Around}{E:Value->Shared->Prop}{s:Shared}(h:wpAny M A t Q E s)(hQ:∀a s,Q a s->Q' a s):wpAny M A t Q' E s:=iA h hQ λ_ _ x=>x
section
variable{X:Cx}
def mj(i:Nat):TE:=λσ H Q=>∃v,σ[i]?=some (some v)/\Q v H
abbrev tC(v:V):TE:=λ_ H Q=>Q v H
theorem Ll{i:Nat}{x:Str}{pos:Pos}(hN:X.N[i]?=some x)(hv:FE X.env.scope x)(hd:(x == ("__debug__" : Str))=false:=by decide)(gU:(x == ("__classdict__" : Str))=false:=by decide):PE X (.Name x pos) (mj i):=by
 intro p_ s σ H Q I h;refine ah h λv e h=>?_;refine ah I.loc λm hn hl=>?_;refine ah (hl i x v hN e hv) λu r l=>?_;have fin:EP X p_ σ Q u s:=⟨v,H,I,r,h⟩;rcases l with ⟨hk,hm⟩ | ⟨hk,c,hc,tW⟩
 ·exact wpAny_Name (wpAny_loadName_local I.ok.kind hk hn hm fin) hd
 ·rcases hk with hk | hk
  ·exact wpAny_Name (wpAny_loadName_cell I.ok.kind hk hc tW fin) hd
  ·exact wpAny_Name (wpAny_loadName_free I.ok.kind hk hc tW fin gU) hd
theorem ay{i j pos}:PE X (.Constant (.int i) j pos) (tC (.int i)):=λ_ _ _ H _ I h=>wpAny_Constant_int ⟨.int i,H,I.tok _,⟨_,rfl⟩,h⟩
theorem kG{b j pos}:PE X (.Constant (.bool b) j pos) (tC (.bl b)):=λ_ _ _ H _ I h=>Constant_bool ⟨.bl b,H,I,rfl,h⟩
theorem rS{j pos}:PE X (.Constant .none j pos) (tC .aJ):=λ_ _ _ H _ I h=>Constant_none ⟨.aJ,H,I,rfl,h⟩
theorem bw{x j pos}:PE X (.Constant (.str x) j pos) (tC (.str x)):=λ_ _ _ H _ I h=>Calls.Constant_str ⟨.str x,H,I.tok _,⟨_,rfl⟩,h⟩
def Gl(X:Cx)(x:Str):Prop:=X.env.kindOf x=some .globalImplicit
theorem nU{E:Value->Shared->Prop}{p_:List (Addr×Obj)}{s:Shared}{σ:St}{H:Hp}{x:Str}{u:Value}{pos:Pos}{Q:Value->Shared->Prop}(I:Inv X p_ σ H s)(hg:Gl X x)(hm:X.mg x=some u)(h:Q u s)
  (hd:(x == ("__debug__" : Str))=false:=by decide):wpAny (model X.prog X.w) X.A (eval (.Name x pos) X.env) Q E s:=
 aah I.ok.kind hg (Calls.loadGlobal_global (by rw[I.ok.glob];exact I.mod.glob.keeps I.bk) hm h) hd
theorem vp{E:Value->Shared->Prop}{p_:List (Addr×Obj)}{s:Shared}{σ:St}{H:Hp}{x:Str}{u:Value}{pos:Pos}{Q:Value->Shared->Prop}(I:Inv X p_ σ H s)(hg:Gl X x)(hm:X.mg x=none)(hv:wO x=some u)(h:Q u s)
  (hn:x ≠ "__name__":=by decide) (hd:(x == ("__debug__" : Str))=false:=by decide):wpAny (model X.prog X.w) X.A (eval (.Name x pos) X.env) Q E s:=by
 refine ah I.mod.blt λmb h1 h2=>?_;exact aah I.ok.kind hg (Calls.loadGlobal_builtin (by rw[I.ok.glob];exact I.mod.glob.keeps I.bk) hm (by rw[I.ok.blt];exact h1.keeps I.bk) ((h2 x hn).trans hv) h) hd
theorem fV{x:Str}{v:V}{u:Value}{pos:Pos}(hg:Gl X x)(hm:X.mg x=some u)(r:RelV v u)(hd:(x == ("__debug__" : Str))=false:=by decide):PE X (.Name x pos) (tC v):=
 λ_ _ _ H _ I h=>nU I hg hm ⟨v,H,I,r,h⟩ hd
theorem pf{x:Str}{v:V}{u:Value}{pos:Pos}(hg:Gl X x)(hm:X.mg x=none)(hv:wO x=some u)(r:RelV v u)(hn:x ≠ "__name__":=by decide)(hd:(x == ("__debug__" : Str))=false:=by decide):PE X (.Name x pos) (tC v):=
 λ_ _ _ H _ I h=>vp I hg hm hv ⟨v,H,I,r,h⟩ hn hd
variable{a b:Expr}{ta tb:TE}{pos:Pos}
def tB(t:TE):TT:=λσ H Q=>t σ H λx H1=>∃c,x=.bl c/\Q c H1
theorem iX{e:Expr}{t:TE}(h:PE X e t)(he:∀whole,isTrue e X.env whole=(do let v <-whole;standAt e.pos;holding [v] (truthy v)):=by intro _;rfl):PT X e (tB t):=by
 intro p_ s σ H Q I hw;refine isTrue_plain (aO (h p_ s σ H _ I hw) λv s1 ⟨x,H1,I1,r1,q1⟩=>?_) (he _);refine ah q1 λd aa q=>?_;clear q1;subst aa;cases r1;exact sX ⟨H1,I1,q⟩
variable{tA FT:TT}{rest:List Expr}
def anV(t u:TT):TT:=λσ H Q=>t σ H λc H1=>if c=true then u σ H1 Q else Q false H1
def tOr(t u:TT):TT:=λσ H Q=>t σ H λc H1=>if c=true then Q true H1 else u σ H1 Q
def anR(t:TT):TT:=λσ H Q=>t σ H λc H1=>Q (!c) H1
theorem pw_and1(ha:PT X a tA):PW X (.BoolOp .And [a] pos) tA:=by
 intro wh p_ s σ H Q I h;refine isTrue_and (aO (ha p_ s σ H Q I h) λc s1 e=>?_);cases c with
 | true=>exact isTrue_and_nil e
 | false=>exact e
theorem pw_or1(ha:PT X a tA):PW X (.BoolOp .Or [a] pos) tA:=by
 intro wh p_ s σ H Q I h;refine isTrue_or (aO (ha p_ s σ H Q I h) λc s1 e=>?_);cases c with
 | false=>exact isTrue_or_nil e
 | true=>exact e
theorem pw_and(ha:PT X a tA)(hb:PW X (.BoolOp .And (b::rest) pos) FT):PW X (.BoolOp .And (a::b::rest) pos) (anV tA FT):=by
 intro wh p_ s σ H Q I h;refine isTrue_and (aO (ha p_ s σ H _ I h) λc s1 ⟨H1,I1,q1⟩=>?_);cases c with
 | true=>exact hb wh p_ s1 σ H1 Q I1 q1
 | false=>exact⟨H1,I1,q1⟩
theorem pw_or(ha:PT X a tA)(hb:PW X (.BoolOp .Or (b::rest) pos) FT):PW X (.BoolOp .Or (a::b::rest) pos) (tOr tA FT):=by
 intro wh p_ s σ H Q I h;refine isTrue_or (aO (ha p_ s σ H _ I h) λc s1 ⟨H1,I1,q1⟩=>?_);cases c with
 | true=>exact⟨H1,I1,q1⟩
 | false=>exact hb wh p_ s1 σ H1 Q I1 q1
theorem nk(ha:PT X a tA):PT X (.UnaryOp .Not a pos) (anR tA):=by
 intro p_ s σ H Q I h;exact isTrue_not (ha p_ s σ H (λc H1=>Q (!c) H1) I h)
def ame(ta tb:TE):TE:=λσ H Q=>ta σ H λx H1=>∃c,x=.bl c/\if c=true then tb σ H1 Q else Q (.bl false) H1
def anQ(ta tb:TE):TE:=λσ H Q=>ta σ H λx H1=>∃c,x=.bl c/\if c=true then Q (.bl true) H1 else tb σ H1 Q
def al9(ta:TE):TE:=λσ H Q=>ta σ H λx H1=>∃c,x=.bl c/\Q (.bl (!c)) H1
theorem vo{op}{t:TE}(h:PE X a t):PE X (.BoolOp op [a] pos) t:=λp_ s σ H Q I hw=>BoolOp_one (h p_ s σ H Q I hw)
theorem zm(ha:PE X a ta)(hb:PE X (.BoolOp .And (b::rest) pos) tb):PE X (.BoolOp .And (a::b::rest) pos) (ame ta tb):=by
 intro p_ s σ H Q I h;refine BoolOp_and (aO (ha p_ s σ H _ I h) λv s1 ⟨x,H1,I1,r1,q1⟩=>?_);obtain⟨c,rfl,q1⟩:=q1;cases r1;refine sX ?_;cases c with
 | true=>exact hb p_ s1 σ H1 Q I1 q1
 | false=>exact⟨.bl false,H1,I1,rfl,q1⟩
theorem VJ(ha:PE X a ta)(hb:PE X (.BoolOp .Or (b::rest) pos) tb):PE X (.BoolOp .Or (a::b::rest) pos) (anQ ta tb):=by
 intro p_ s σ H Q I h;refine BoolOp_or (aO (ha p_ s σ H _ I h) λv s1 ⟨x,H1,I1,r1,q1⟩=>?_);obtain⟨c,rfl,q1⟩:=q1;cases r1;refine sX ?_;cases c with
 | false=>exact hb p_ s1 σ H1 Q I1 q1
 | true=>exact⟨.bl true,H1,I1,rfl,q1⟩
theorem Lm(ha:PE X a ta):PE X (.UnaryOp .Not a pos) (al9 ta):=by
 intro p_ s σ H Q I h;refine UnaryOp_ (aO (ha p_ s σ H _ I h) λv s1 ⟨x,H1,I1,r1,q1⟩=>?_);obtain⟨c,rfl,q1⟩:=q1;cases r1;exact not_of (sX ⟨.bl (!c),H1,I1,rfl,q1⟩)
def tIf(t:TT)(ta tb:TE):TE:=λσ H Q=>t σ H λc H1=>if c=true then ta σ H1 Q else tb σ H1 Q
theorem SI{c:Expr}(hc:PT X c tA)(ha:PE X a ta)(hb:PE X b tb):PE X (.IfExp c a b pos) (tIf tA ta tb):=by
 intro p_ s σ H Q I h;refine wpAny_IfExp (aO (hc p_ s σ H _ I h) λd s1 ⟨H1,I1,q1⟩=>?_);cases d with
 | true=>exact ha p_ s1 σ H1 Q I1 q1
 | false=>exact hb p_ s1 σ H1 Q I1 q1
end
def av(K:PySem.W.Frag)(H:Hp)(a:Addr)(xs:List V):Prop:=
 Rd H a (.lst xs)\/
  ∃(o:Obj) (ak:Array Value) (n:Nat),K.lookup a=some o/\o.cls=.type "list"/\o.dict=none/\o.data=.seq ak n/\ak.size<=aP/\Vals xs ak.toList
def aE(K:PySem.W.Frag)(H:Hp)(a:Addr)(xs:List V):Prop:=
 Rd H a (.tup xs)\/
  ∃(o:Obj) (ak:Array Value) (n:Nat),K.lookup a=some o/\o.cls=.type "tuple"/\o.data=.seq ak n/\ak.size<=aP/\Vals xs ak.toList
def aok:Value->Option V
 | .none=>some .aJ
 | .bool b=>some (.bl b)
 | .int i _=>some (.int i)
 | .str x _=>some (.str x)
 | .bytes b _=>some (.pM b)
 | .float b _=>some (.ud b)
 | .ref a=>some (.ref a)
 | .type n=>some (.ty n)
 | _=>none
theorem RelV.abs{x:V}{u:Value}(r:RelV x u):aok u=some x:=by
 cases x with
 | aJ=>cases r;rfl
 | bl _=>cases r;rfl
 | int _=>obtain⟨t,rfl⟩:=r;rfl
 | str _=>obtain⟨t,rfl⟩:=r;rfl
 | pM _=>obtain⟨t,rfl⟩:=r;rfl
 | ud _=>obtain⟨t,rfl⟩:=r;rfl
 | ref _=>cases r;rfl
 | ty _=>cases r;rfl
theorem RelV.inj{x y:V}{u:Value}(r:RelV x u)(q:RelV y u):x=y:=iz (r.abs.symm.trans q.abs)
theorem Vals.inj:∀{xs ys:List V} {us:List Value},Vals xs us->Vals ys us->xs=ys
 | _,_,_,.nil,.nil=>rfl
 | _,_,_,.cons r t,.cons r' t'=>by rw[r.inj r',Vals.inj t t']
section
variable{X:Cx}{p_:List (Addr×Obj)}{σ:St}{H:Hp}{s:Shared}{a:Addr}{xs ys:List V}
theorem av.of{K:PySem.W.Frag}(h:H a=some (.lst xs)):av K H a xs:=.inl (.inl h)
theorem aE.of{K:PySem.W.Frag}(h:H a=some (.tup xs)):aE K H a xs:=.inl (.inl h)
theorem Inv.list(I:Inv X p_ σ H s)(h:av X.K H a xs):∃ak:List Value,Vals xs ak/\PlainL s.heap a ak.toArray/\xs.length<=aP:=by
 rcases h with h | ⟨o,ak,n,hk,hc,hd,hs,hz,r⟩
 ·refine oA (h.ok I.aG) λz aa=>?_;refine a9 aa λak n r e=>?_;exact⟨ak,r,⟨_,n,e,rfl,rfl,rfl⟩,z⟩
 ·refine⟨ak.toList,r,⟨o,n,I.cH a o hk,hc,hd,by simpa using hs⟩,?_⟩;have e:=r.length;simp only[Ay]at e;exact w7
theorem Inv.tuple(I:Inv X p_ σ H s)(h:aE X.K H a xs):∃ak:List Value,Vals xs ak/\IsTup s.heap a ak.toArray/\xs.length<=aP:=by
 rcases h with h | ⟨o,ak,n,hk,hc,hs,hz,r⟩
 ·refine oA (h.ok I.aG) λz aa=>?_;refine ah aa λak r p=>?_;exact⟨ak,r,p,z⟩
 ·refine⟨ak.toList,r,⟨o,I.cH a o hk,hc,n,by simpa using hs⟩,?_⟩;have e:=r.length;simp only[Ay]at e;exact w7
theorem Inv.SU(I:Inv X p_ σ H s)(h:av X.K H a xs)(h':av X.K H a ys):xs=ys:=by
 refine aL (I.list h) λak r aa _=>?_;refine nW aa λo n e _ _ d=>?_;refine aL (I.list h') λmq r' aa _=>?_;refine nW aa λo' n' e' _ _ d'=>?_;rw[e]at e';cases e';rw[d]at d';injection d' with d1 _
 have:ak=mq:=by simpa using congrArg Array.toList d1
 subst this;exact r.inj r'
theorem Inv.Rz(I:Inv X p_ σ H s)(h:aE X.K H a xs)(h':aE X.K H a ys):xs=ys:=by
 refine aL (I.tuple h) λak r aa _=>?_;refine aL aa λo e _ aa=>?_;refine oE aa λn d=>?_;refine aL (I.tuple h') λmq r' aa _=>?_;refine aL aa λo' e' _ aa=>?_;refine oE aa λn' d'=>?_;rw[e]at e';cases e';rw[d]at d';injection d' with d1 _
 have:ak=mq:=by simpa using congrArg Array.toList d1
 subst this;exact r.inj r'
end
abbrev Cx.sf(X:Cx)(E:Value->Shared->Prop):Cx:={ X with xe:=E }
abbrev Cx.qE(X:Cx):Cx:=X.sf λ_ _=>False
theorem Cx.Ok.sf{X:Cx}(ok:X.Ok)(E:Value->Shared->Prop):(X.sf E).Ok:=
 ⟨ok.mod,ok.kind,ok.glob,ok.blt,ok.above,ok.inj,ok.has,ok.uh,ok.hd,ok.frames,ok.vQ,ok.sD,ok.bs,ok.lV,ok.tY,ok.sj,ok.lO,ok.qH⟩
theorem Cx.Ok.vm{X:Cx}{E:Value->Shared->Prop}(ok:(X.sf E).Ok):X.Ok:=
 ⟨ok.mod,ok.kind,ok.glob,ok.blt,ok.above,ok.inj,ok.has,ok.uh,ok.hd,ok.frames,ok.vQ,ok.sD,ok.bs,ok.lV,ok.tY,ok.sj,ok.lO,ok.qH⟩
section
variable{X:Cx}{p_:List (Addr×Obj)}{σ:St}{H:Hp}{s:Shared}{E:Value->Shared->Prop}
theorem Inv.sf(I:Inv X p_ σ H s)(E:Value->Shared->Prop):Inv (X.sf E) p_ σ H s:=⟨I.ok.sf E,I.os,I.bare,I.base,I.loc,I.cell,I.free,I.jy,I.pin,I.aG,I.len⟩
theorem Inv.vm(I:Inv (X.sf E) p_ σ H s):Inv X p_ σ H s:=⟨I.ok.vm,I.os,I.bare,I.base,I.loc,I.cell,I.free,I.jy,I.pin,I.aG,I.len⟩
theorem SP.vm{D:Ends}{f:Flow}{s':Shared}(h:SP (X.sf E) p_ D f s'):SP X p_ D f s':=by
 cases f with
 | next=>obtain⟨σ',H',I,q⟩:=h;exact⟨σ',H',I.vm,q⟩
 | brk=>obtain⟨σ',H',I,q⟩:=h;exact⟨σ',H',I.vm,q⟩
 | cont=>obtain⟨σ',H',I,q⟩:=h;exact⟨σ',H',I.vm,q⟩
 | ret u=>obtain⟨v,σ',H',I,r,q⟩:=h;exact⟨v,σ',H',I.vm,r,q⟩
theorem eE.qE{st:List Stmt}{t:TS}(h:eE X.qE st t):eE X st t:=λp_ s σ H D I hw=>
 iA (h p_ s σ H D (I.sf _) hw) (λ_ _ q=>q.vm) λ_ _ z=>gA z
end
section
variable{X:Cx}{st:Stmt}{rest:List Stmt}{t u:TS}{e:Expr}{te:TE}{pos:Pos}
abbrev al':TS:=λD σ H=>D.nx σ H
abbrev anO(t u:TS):TS:=λD σ H=>t { D with nx:=u D } σ H
theorem cU:eE X [] al':=λ_ _ σ H _ I h=>AD ⟨σ,H,I,h⟩
theorem ax(h1:PS X st t)(h2:eE X rest u):eE X (st::rest) (anO t u):=by
 intro p_ s σ H D I h;refine wpAny_execs_cons (aO (h1 p_ s σ H { D with nx:=u D } I h) λf s1 q=>?_);cases f with
 | next=>
  refine a9 q λσ' H' I' q=>?_;exact h2 p_ s1 σ' H' D I' q
 | ret v=>exact q
 | brk=>exact q
 | cont=>exact q
theorem aB(h1:PS X st t):eE X [st] t:=by
 intro p_ s σ H D I h;refine wpAny_execs_cons (aO (h1 p_ s σ H D I h) λf s1 q=>?_);cases f with
 | next=>exact AD q
 | ret v=>exact q
 | brk=>exact q
 | cont=>exact q
theorem Inv.quiet{p_:List (Addr×Obj)}{σ:St}{H:Hp}{s:Shared}(I:Inv X p_ σ H s):interactive X.env=false:=by simp[interactive,I.ok.kind]
abbrev amb(te:TE):TS:=λD σ H=>te σ H λ_ H1=>D.nx σ H1
theorem dQ(he:PE X e te)(hs:AY e none pos.line X.env=pure false:=by rfl):PS X (.Expr e pos) (amb te):=by
 intro p_ s σ H D I h;exact wpAny_Expr_any (aO (he p_ s σ H _ I h) λv s1 ⟨x,H1,I1,r1,q1⟩=>⟨σ,H1,I1,q1⟩) I.quiet hs
abbrev anP(te:TE):TS:=λD σ H=>te σ H D.rt
theorem a8(he:PE X e te):PS X (.Return (some e) pos) (anP te):=by
 intro p_ s σ H D I h;exact wpAny_Return_some (aO (he p_ s σ H _ I h) λv s1 ⟨x,H1,I1,r1,q1⟩=>⟨x,σ,H1,I1,r1,q1⟩)
abbrev anT(c:TT)(t u:TS):TS:=λD σ H=>c σ H λb H1=>if b=true then t D σ H1 else u D σ H1
theorem cF{c:Expr}{a b:List Stmt}{tc:TT}(hc:PT X c tc)(ha:eE X a t)(hb:eE X b u):PS X (.If c a b pos) (anT tc t u):=by
 intro p_ s σ H D I h;refine wpAny_If (aO (hc p_ s σ H _ I h) λd s1 ⟨H1,I1,q1⟩=>?_);cases d with
 | true=>exact ha p_ s1 σ H1 D I1 q1
 | false=>exact hb p_ s1 σ H1 D I1 q1
end
abbrev TG:=V->St->Hp->(St->Hp->Prop)->Prop
abbrev xW:=List V->St->Hp->(St->Hp->Prop)->Prop
def PG(X:Cx)(target:Expr)(t:TG):Prop:=
 ∀(p_:List (Addr×Obj)) (s:Shared) (σ:St) (H:Hp) (v:V) (u:Value) (Q:St->Hp->Prop),Inv X p_ σ H s->RelV v u->t v σ H Q->
  wpAny (model X.prog X.w) X.A (assign target X.env u) (λ_ s'=>∃σ' H',Inv X p_ σ' H' s'/\Q σ' H') X.xe s
def FJ(X:Cx)(ts:List Expr)(t:xW):Prop:=
 ∀(p_:List (Addr×Obj)) (s:Shared) (σ:St) (H:Hp) (vs:List V) (us:List Value) (Q:St->Hp->Prop),Inv X p_ σ H s->Vals vs us->t vs σ H Q->
  wpAny (model X.prog X.w) X.A (assignInOrder ((AR ts X.env).map (·.2)) us) (λ_ s'=>∃σ' H',Inv X p_ σ' H' s'/\Q σ' H') X.xe s
abbrev BQ:=V->V->V->Hp->(Hp->Prop)->Prop
def Nd(X:Cx)(t:BQ):Prop:=
 ∀(p_:List (Addr×Obj)) (s:Shared) (σ:St) (H:Hp) (o i v:V) (ov iv u:Value) (Q:Hp->Prop),Inv X p_ σ H s->RelV o ov->RelV i iv->RelV v u->t o i v H Q->
  wpAny (model X.prog X.w) X.A (setItem ov iv u) (λ_ s'=>∃H',Inv X p_ σ H' s'/\Q H') X.xe s
abbrev FH:=V->V->Hp->VK->Prop
def XZ(X:Cx)(op:Operator)(t:FH):Prop:=
 ∀(p_:List (Addr×Obj)) (s:Shared) (σ:St) (H:Hp) (x y:V) (v u:Value) (Q:VK),Inv X p_ σ H s->RelV x v->RelV y u->t x y H Q->
  wpAny (model X.prog X.w) X.A (inplaceOp op v u) (EP X p_ σ Q) X.xe s
section
variable{X:Cx}{pos:Pos}
abbrev ij(i:Nat):TG:=λv σ H Q=>Q (σ.set i (some v)) H
theorem de{i:Nat}{x:Str}(hN:X.N.Nodup)(hi:X.N[i]?=some x)(hx:Loc X.env.scope x)(hf:X.fn x=true\/X.env.scope.names.lookup x=some .local:=by first | exact .inl rfl | exact .inr rfl | assumption):PG X (.Name x pos) (ij i):=by
 intro p_ s σ H v u Q I r h;exact wpAny_assign_Name (Jl I hN hi hx r (λs' I'=>⟨_,H,I',h⟩) hf)
def WL:xW:=λvs σ H Q=>vs=[]/\Q σ H
def Mp(t:TG)(u:xW):xW:=λvs σ H Q=>∃v r,vs=v::r/\t v σ H λσ' H'=>u r σ' H' Q
theorem za:FJ X [] WL:=by
 intro p_ s σ H vs us Q I r h;obtain⟨e,h⟩:=h;subst e;cases r;exact assignInOrder_nil ⟨σ,H,I,h⟩
theorem pe{e:Expr}{es:List Expr}{t:TG}{u:xW}(h1:PG X e t)(h2:FJ X es u)
  (hs:(AR (e::es) X.env).map (·.2)=assign e X.env::(AR es X.env).map (·.2):=by rfl):FJ X (e::es) (Mp t u):=by
 intro p_ s σ H vs us Q I r h;obtain⟨v,vr,e1,h⟩:=h;subst e1;cases r with
 | cons r rr=>
  rw[hs];refine assignInOrder_cons (aO (h1 p_ s σ H _ _ _ I r h) λ_ s1 ⟨σ1,H1,I1,q1⟩=>?_);exact h2 p_ s1 σ1 H1 _ _ Q I1 rr q1
def WK(K:PySem.W.Frag)(n:Nat)(t:xW):TG:=λv σ H Q=>∃a xs,v=.ref a/\aE K H a xs/\xs.length=n/\t xs σ H Q
theorem zk{es:List Expr}{k:Nat}{t:xW}{n:Nat}(hc:X.calm=true)(h:FJ X es t)
  (hn:(AR es X.env).length=n:=by rfl) (cR:(AR es X.env).findIdx? (·.1)=none:=by rfl):PG X (.Tuple es k pos) (WK X.K n t):=by
 intro p_ s σ H v u Q I r hw;obtain⟨a,xs,e1,hq,hl,hw⟩:=hw;subst e1;cases r;obtain⟨ak,rv,ht,hz⟩:=I.tuple hq;refine assign_Tuple_tuple (I.ok.hd hc) ht (by simp[hn,<-hl,rv.length]) cR λh' hx=>?_;have I1:Inv X p_ σ H { s with heap:=h' }:=I.kept (t':=s.toks) λb o e=>hx b o (eO (bJ e)) e;exact h p_ _ σ H xs _ Q I1 (by simpa using rv) hw
def aod(to ti:TE)(t:BQ):TG:=λv σ H Q=>to σ H λo H1=>ti σ H1 λi H2=>t o i v H2 λH3=>Q σ H3
theorem zl{o i:Expr}{to ti:TE}{t:BQ}(ho:PE X o to)(hi:PE X i ti)(hs:Nd X t)
  (ha:∀v,assign (.Subscript o i pos) X.env v=(do
   let ov <-holding [v] (eval o X.env)
   let iv <-holding [v,ov] (eval i X.env)
   standAt pos
   holding [v,ov,iv] (setItem ov iv v)
   release [v,ov,iv] []):=by intro _;rfl):PG X (.Subscript o i pos) (aod to ti t):=by
 intro p_ s σ H v u Q I r h;rw[ha];refine aq (ng (aO (ho p_ s σ H _ I h) λov s1 ⟨x,H1,I1,r1,q1⟩=>?_));refine aq (ng (aO (hi p_ s1 σ H1 _ I1 q1) λiv s2 ⟨y,H2,I2,r2,q2⟩=>?_));refine aq (yN (aq (ng (aO (hs p_ s2 σ H2 x y v ov iv u _ I2 r1 r2 r q2) λ_ s3 ⟨H3,I3,q3⟩=>?_))));exact wpAny_release ⟨σ,H3,I3,q3⟩
abbrev MK(te:TE)(g:TG):TS:=λD σ H=>te σ H λx H1=>g x σ H1 D.nx
theorem zg{tg e:Expr}{te:TE}{g:TG}(he:PE X e te)(hg:PG X tg g)(hs:swapsWithSole [tg] e pos.line X.env=pure false:=by rfl)(hw:swappedStores [tg] e X.env=pure none:=by rfl)
  (h1:(AR [tg] X.env).map (·.2)=[assign tg X.env]:=by rfl):PS X (.Assign [tg] e pos) (MK te g):=by
 intro p_ s σ H D I h;refine wpAny_Assign_stores (aO (he p_ s σ H _ I h) λv s1 ⟨x,H1,I1,r1,q1⟩=>?_) hs hw;rw[h1];exact aO (hg p_ s1 σ H1 x v _ I1 r1 q1) λ_ s2 q=>q
theorem bZ{i:Nat}{x:Str}{e:Expr}{te:TE}{pos':Pos}(hN:X.N.Nodup)(hi:X.N[i]?=some x)(hx:Loc X.env.scope x)(he:PE X e te)(hs:AY e (some (.Name x pos')) pos.line X.env=pure false:=by rfl)(hf:X.fn x=true\/X.env.scope.names.lookup x=some .local:=by first | exact .inl rfl | exact .inr rfl | assumption) :
  PS X (.Assign [.Name x pos'] e pos) (MK te (ij i)):=by
 intro p_ s σ H D I h;refine wpAny_Assign_Name (aO (he p_ s σ H _ I h) λv s1 ⟨y,H1,I1,r1,q1⟩=>?_) hs;exact Jl I1 hN hi hx r1 (λs2 I2=>⟨_,H1,I2,q1⟩) hf
def amd(to ti te:TE)(Fg:V->V->Hp->VK->Prop)(FR:FH)(Ff:BQ):TS:=λD σ H=>to σ H λo H1=>ti σ H1 λi H2=>Fg o i H2 λx H3=>te σ H3 λy H4=>FR x y H4 λz H5=>Ff o i z H5 λH6=>D.nx σ H6
def WR(X:Cx)(t:V->V->Hp->VK->Prop):Prop:=
 ∀(p_:List (Addr×Obj)) (s:Shared) (σ:St) (H:Hp) (o i:V) (ov iv:Value) (Q:VK),Inv X p_ σ H s->RelV o ov->RelV i iv->t o i H Q->
  wpAny (model X.prog X.w) X.A (getItem ov iv) (EP X p_ σ Q) X.xe s
theorem aij{o i e:Expr}{to ti te:TE}{Fg:V->V->Hp->VK->Prop}{FR:FH}{Ff:BQ}{op:Operator}{xI:Pos}(ho:PE X o to)(hi:PE X i ti)(hg:WR X Fg)(he:PE X e te)(hp:XZ X op FR)(hs:Nd X Ff)
  (ha:∀ov iv new,augStore i ov iv new=(do holding [new,ov,iv] (setItem ov iv new);release [new,ov,iv] [];pure .next):=by intros;rfl):PS X (.AugAssign (.Subscript o i xI) op e pos) (amd to ti te Fg FR Ff):=by
 intro p_ s σ H D I h;refine wpAny_AugAssign_SubscriptAny (aO (ho p_ s σ H _ I h) λov s1 ⟨x1,H1,I1,r1,q1⟩=>?_) ha;refine aO (hi p_ s1 σ H1 _ I1 q1) λiv s2 ⟨x2,H2,I2,r2,q2⟩=>?_;refine aO (hg p_ s2 σ H2 x1 x2 ov iv _ I2 r1 r2 q2) λold s3 ⟨x3,H3,I3,r3,q3⟩=>?_;refine aO (he p_ s3 σ H3 _ I3 q3) λv s4 ⟨x4,H4,I4,r4,q4⟩=>?_;refine aO (hp p_ s4 σ H4 x3 x4 old v _ I4 r3 r4 q4) λnew s5 ⟨x5,H5,I5,r5,q5⟩=>?_;exact aO (hs p_ s5 σ H5 x1 x2 x5 ov iv new _ I5 r1 r2 r5 q5) λ_ s6 ⟨H6,I6,q6⟩=>⟨σ,H6,I6,q6⟩
def ipI(f:Int->Int->Int):FH:=λx y H Q=>∃i j,x=.int i/\y=.int j/\Q (.int (f i j)) H
theorem ak4:XZ X .Add (ipI λi j=>i+j):=by
 intro p_ s σ H x y v u Q I r1 r2 h;refine cG h λi j e1 e2 q=>?_;subst e1;subst e2;refine oE r1 λt aa=>?_;clear r1;subst aa;refine oE r2 λt' aa=>?_;clear r2;subst aa;exact iadd_int ⟨.int _,H,I.tok _,⟨_,rfl⟩,q⟩
end
section
variable{X:Cx}{pos:Pos}
def aj6(c:TT)(tb:TS):TS:=λD σ H=>∃W:Nat->St->Hp->Prop,(∃m,W m σ H)/\∀m σ H,W m σ H->
 c σ H λb H1=>if b=true then ∃N:St->Hp->Prop,(∀σ' H',N σ' H'->∃m',m'<m/\W m' σ' H')/\tb { D with nx:=N,ct:=N,bk:=D.nx } σ H1 else D.nx σ H1
theorem af8{c:Expr}{body:List Stmt}{tc:TT}{tb:TS}(hp:lM (model X.prog X.w) X.A X.env X.xe)(hc:PT X c tc)(hb:eE X body tb):PS X (.While c body [] pos) (aj6 tc tb):=by
 intro p_ s σ H D I h;refine ah h λW aa turn=>?_;refine oE aa λm0 w0=>?_;refine wpAny_While (codeAny_whileLoop (λn s'=>∃σ' H',Inv X p_ σ' H' s'/\W n σ' H') ?_ m0 ⟨σ,H,I,w0⟩);rintro n s1 ⟨σ1,H1,I1,w1⟩;refine yJ hp (aO (hc p_ s1 σ1 H1 _ I1 (turn n σ1 H1 w1)) λb s2 ⟨H2,I2,q2⟩=>?_);cases b with
 | true=>
  refine ah q2 λN hN q2=>?_;rw[if_pos rfl];refine yJ hp (aO (hb p_ s2 σ1 H2 _ I2 q2) λf s3 q3=>?_);cases f with
  | next=>
   refine a9 q3 λσ3 H3 I3 n3=>?_;refine ah (hN σ3 H3 n3) λm' hm w3=>?_;exact⟨m',hm,σ3,H3,I3,w3⟩
  | cont=>
   refine a9 q3 λσ3 H3 I3 n3=>?_;refine ah (hN σ3 H3 n3) λm' hm w3=>?_;exact⟨m',hm,σ3,H3,I3,w3⟩
  | brk=>exact q3
  | ret v=>exact q3
 | false=>
  rw[if_neg dh];exact AD ⟨σ1,H2,I2,q2⟩
end
structure It where
 go:Nat->Hp->Prop
 vP:Nat->Hp->V->Hp->Prop
 stop:Nat->Hp->Prop
def cV(X:Cx)(p_:List (Addr×Obj))(H:Hp)(b:Addr):Prop:=
 H b=none/\b≠X.env.locals/\b∉X.fs/\(b∈X.ex\/X.s₀.heap.objs.size<=b)/\(∀x c,X.env.cells.lookup x=some c->c≠b)/\∀p∈X.pn++p_,p.1≠b
theorem Inv.fo{X:Cx}{p_:List (Addr×Obj)}{σ:St}{H H':Hp}{s:Shared}{b:Addr}(I:Inv X p_ σ H s)(hb:s.heap.objs.size<=b)(hn:H' b=none):cV X p_ H' b:=by
 refine⟨hn,tf (eK I.lt hb),I.WG hb,.inr (cu I.sz hb),λx c e z=>?_,λp hp z=>?_⟩
 ·refine oE (I.cell x c e) λv q=>?_;exact absurd (eK q.lt (by rw[z];exact hb)) (iQ _)
 ·exact absurd (eK (bJ (I.pin p hp).1) (by rw[z];exact hb)) (iQ _)
structure Turn(P:Program)(w:World)(K:PySem.W.Frag)(tg:Expr)(J:It)(fp:List Addr)(it:Addr)(tn:Nat->Heap->Prop):Prop where
 mem:it∈fp
 obj:∀i h,tn i h->∀b∈fp,∃o,h.get? b=some o/\∀v,o.data≠.cell v
 keep:∀i h h',tn i h->(∀b∈fp,∀o,h.get? b=some o->h'.get? b=some o)->tn i h'
 item:∀(X:Cx),X.prog=P->X.w=w->X.K=K->X.calm=true->∀(i:Nat) (p_:List (Addr×Obj)) (s:Shared) (σ:St) (H:Hp) (E:Value->Shared->Prop),Inv X p_ σ H s->(∀b∈fp,cV X p_ H b)->tn i s.heap->J.go i H->
  wpAny (model P w) X.A (pyNext (.ref it)) (λr s1=>∃u,r=some u/\
   wpAny (model P w) X.A (HL tg (.ref it) u) (λ_ s2=>∃x H',Inv X p_ σ H' s2/\RelV x u/\J.vP i H x H'/\tn (i+1) s2.heap/\∀b∈fp,H' b=none) E s1) E s
 done:∀(X:Cx),X.prog=P->X.w=w->X.K=K->X.calm=true->∀(i:Nat) (p_:List (Addr×Obj)) (s:Shared) (σ:St) (H:Hp) (E:Value->Shared->Prop),Inv X p_ σ H s->(∀b∈fp,cV X p_ H b)->tn i s.heap->J.stop i H->
  wpAny (model P w) X.A (pyNext (.ref it)) (λr s1=>r=none/\Inv X p_ σ H s1) E s
 self:∀(A:Around) (i:Nat) (s:Shared) (Q:Value->Shared->Prop) (E:Value->Shared->Prop),tn i s.heap->Q (.ref it) s->wpAny (model P w) A (pyIter (.ref it)) Q E s
abbrev TI:=St->Hp->(It->Hp->Prop)->Prop
def X0(X:Cx)(p_:List (Addr×Obj))(σ:St)(tg:Expr)(R:It->Hp->Prop)(Ci:Value)(s2:Shared):Prop:=
 ∃(it:Addr) (fp:List Addr) (tn:Nat->Heap->Prop) (J:It) (H':Hp),Ci=.ref it/\Inv X p_ σ H' s2/\Turn X.prog X.w X.K tg J fp it tn/\tn 0 s2.heap/\(∀b∈fp,cV X p_ H' b)/\R J H'
def PI(X:Cx)(tg iter:Expr)(wi:TI):Prop:=
 ∀(p_:List (Addr×Obj)) (s:Shared) (σ:St) (H:Hp) (R:It->Hp->Prop),Inv X p_ σ H s->wi σ H R->
  wpAny (model X.prog X.w) X.A (eval iter X.env) (λv s1=>wpAny (model X.prog X.w) X.A (pyIter v) (X0 X p_ σ tg R) X.xe s1) X.xe s
theorem Mo{M:Model}{A:Around}{E:Value->Shared->Prop}{s:Shared}{tg:Expr}{it:Addr}{u:Value}{o:Obj}{n:String}{vs:Array Value}{Q:Unit->Shared->Prop}(ho:s.heap.get? it=some o)(hc:o.cls=.type n)(hd:o.data=.fields vs)
  (hn:["enumerate","zip","dict_itemiterator","dict_reverseitemiterator","odict_iterator","itertools.zip_longest","itertools.pairwise"].contains n=false) (hQ:Q () s):wpAny M A (HL tg (.ref it) u) Q E s:=by
 unfold HL
 cases tg <;> first
  | exact aN hQ
  | (cases u <;> first
    | exact aN hQ
    | (refine aq (wpAny_load ho ?_);rw[hc,hd];show wpAny M A (if (["enumerate","zip","dict_itemiterator","dict_reverseitemiterator","odict_iterator","itertools.zip_longest","itertools.pairwise"].contains n&&vs[0]? == some (rawInt _))=true then _ else _) Q E s;rw[if_neg (by intro h;rw[hn,rn]at h;cases h)];exact aN hQ))
def zW(K:PySem.W.Frag)(a:Addr):It:=
 ⟨λi H=>∃xs x,av K H a xs/\xs[i]?=some x,λi H x H'=>H'=H/\∀xs,av K H a xs->xs[i]?=some x,λi H=>∃xs,av K H a xs/\xs.length<=i⟩
def X4(K:PySem.W.Frag)(a:Addr):It:=
 ⟨λi H=>∃xs x,aE K H a xs/\xs[i]?=some x,λi H x H'=>H'=H/\∀xs,aE K H a xs->xs[i]?=some x,λi H=>∃xs,aE K H a xs/\xs.length<=i⟩
def xX(lo:Int)(n:Nat):It:=⟨λi _=>i<n,λi H x H'=>H'=H/\x=.int (lo+i),λi _=>n<=i⟩
theorem aet{P:Program}{w:World}{K:PySem.W.Frag}{tg:Expr}(a it:Addr):Turn P w K tg (zW K a) [it] it (λi h=>h.IsListIter it a i) where
 mem:=by simp
 obj:=λi h st b hb=>by
  have e:b=it:=by simpa using hb
  subst e;refine aL st λo e c d=>?_;exact⟨o,e,λv z=>by rw[d]at z;cases z⟩
 keep:=λi h h' st k=>st.at λo e=>k it (by simp) o e
 item:=by
  intro X hP hw hK hc i p_ s σ H E I hf st hg;subst hP hw hK;refine a9 hg λxs x hq hx=>?_;refine aL (I.list hq) λak rv p hz=>?_;refine ah (rv.get hx) λu hu ru=>?_;refine md (hf it (by simp)) λf0 f1 f2 f3 f4 f5=>?_;refine wpAny_pyNext_list_item st p.isList (x:=u) (by simpa using hu) λh' v7 sb=>?_;have I1:Inv X p_ σ H { s with heap:=h' }:=I.turned (t':=s.toks) (λb o hb e=>(sb.2 b hb).trans e) f0 f1 f3 f4 f5;refine aL (id v7) λo e c d=>?_;exact⟨u,rfl,Mo (s:={ s with heap:=h' }) e c d qc ⟨x,H,I1,ru,⟨rfl,λys hy=>by rw[I.SU hy hq];exact hx⟩,v7,λb hb=>(hf b hb).1⟩⟩
 done:=by
  intro X hP hw hK hc i p_ s σ H E I hf st hg;subst hP hw hK;refine ah hg λxs hq hx=>?_;refine aL (I.list hq) λak rv p hz=>?_;refine md (hf it (by simp)) λf0 f1 f2 f3 f4 f5=>?_;have hl:=rv.length;exact wpAny_pyNext_list_end (I.ok.hd hc) st p.isList (by simp;lia) λh' eb=>⟨rfl,I.turned (t':=s.toks) (λb o hb e=>eb b o hb e) f0 f1 f3 f4 f5⟩
 self:=λ_ _ _ _ _ st h=>wpAny_pyIter_listiter st h
theorem adG{P:Program}{w:World}{K:PySem.W.Frag}{tg:Expr}(a it:Addr):Turn P w K tg (X4 K a) [it] it (λi h=>h.IsTupleIter it a i) where
 mem:=by simp
 obj:=λi h st b hb=>by
  have e:b=it:=by simpa using hb
  subst e;refine aL st λo e c d=>?_;exact⟨o,e,λv z=>by rw[d]at z;cases z⟩
 keep:=λi h h' st k=>st.at λo e=>k it (by simp) o e
 item:=by
  intro X hP hw hK hc i p_ s σ H E I hf st hg;subst hP hw hK;refine a9 hg λxs x hq hx=>?_;refine aL (I.tuple hq) λak rv p hz=>?_;refine ah (rv.get hx) λu hu ru=>?_;refine md (hf it (by simp)) λf0 f1 f2 f3 f4 f5=>?_;refine wpAny_pyNext_tuple_item st (show s.heap.IsTuple a ak.toArray from p) (x:=u) (by simpa using hu) λh' v7 sb=>?_;have I1:Inv X p_ σ H { s with heap:=h' }:=I.turned (t':=s.toks) (λb o hb e=>(sb.2 b hb).trans e) f0 f1 f3 f4 f5;refine aL (id v7) λo e c d=>?_;exact⟨u,rfl,Mo (s:={ s with heap:=h' }) e c d qc ⟨x,H,I1,ru,⟨rfl,λys hy=>by rw[I.Rz hy hq];exact hx⟩,v7,λb hb=>(hf b hb).1⟩⟩
 done:=by
  intro X hP hw hK hc i p_ s σ H E I hf st hg;subst hP hw hK;refine ah hg λxs hq hx=>?_;refine aL (I.tuple hq) λak rv p hz=>?_;refine md (hf it (by simp)) λf0 f1 f2 f3 f4 f5=>?_;have hl:=rv.length;exact wpAny_pyNext_tuple_end (I.ok.hd hc) st (show s.heap.IsTuple a ak.toArray from p) (by simp;omega) λh' eb=>⟨rfl,I.turned (t':=s.toks) (λb o hb e=>eb b o hb e) f0 f1 f3 f4 f5⟩
 self:=λ_ _ _ _ _ st h=>wpAny_pyIter_tupleiter st h
theorem adH{P:Program}{w:World}{K:PySem.W.Frag}{tg:Expr}(it:Addr)(lo:Int)(n:Nat):Turn P w K tg (xX lo n) [it] it (λi h=>IsRangeIter h it (lo+(i:Nat)*1) ((n:Int)-(i:Nat)) 1) where
 mem:=by simp
 obj:=λi h st b hb=>by
  have e:b=it:=by simpa using hb
  subst e
  exact⟨_,st,λv z=>by
   have z':Data.fields _=Data.cell v:=z;cases z'⟩
 keep:=λi h h' st k=>k it (by simp) _ st
 item:=by
  intro X hP hw hK hc i p_ s σ H E I hf st hg;subst hP hw hK;refine md (hf it (by simp)) λf0 f1 f2 f3 f4 f5=>?_;have W:=Walks.range (prog:=X.prog) (w:=X.w) (I.ok.hd hc) it lo 1 n;refine W.item i s _ _ hg st λv h' tk hv v7 kk=>?_;refine oE hv λt aa=>?_;clear hv;subst aa;have I1:Inv X p_ σ H { s with heap:=h',toks:=tk }:=I.turned (λb o hb e=>kk b o (by simpa using hb) e) f0 f1 f3 f4 f5;refine⟨_,rfl,Mo (s:={ s with heap:=h',toks:=tk }) (n:="range_iterator") v7 rfl rfl qc ⟨.int (lo+i),H,I1,⟨t,?_⟩,⟨rfl,rfl⟩,v7,λb hb=>(hf b hb).1⟩⟩;rw[Int.mul_one]
 done:=by
  intro X hP hw hK hc i p_ s σ H E I hf st hg;subst hP hw hK;refine md (hf it (by simp)) λf0 f1 f2 f3 f4 f5=>?_;exact wpAny_pyNext_range_end (I.ok.hd hc) st (by have:n<=i:=hg;lia) λh' eb=>⟨rfl,I.turned (t':=s.toks) (λb o hb e=>eb b o hb e) f0 f1 f3 f4 f5⟩
 self:=λ_ _ _ _ _ st h=>wpAny_pyIter_rangeiter st h
section
variable{X:Cx}{tg:Expr}
def amF(K:PySem.W.Frag)(tl:TE):TI:=λσ H R=>tl σ H λx H1=>∃a,x=.ref a/\(∃xs,av K H1 a xs)/\R (zW K a) H1
def WJ(K:PySem.W.Frag)(tl:TE):TI:=λσ H R=>tl σ H λx H1=>∃a,x=.ref a/\(∃xs,aE K H1 a xs)/\R (X4 K a) H1
theorem qf{l:Expr}{tl:TE}(hl:PE X l tl):PI X tg l (amF X.K tl):=by
 intro p_ s σ H R I h;refine aO (hl p_ s σ H _ I h) λv s1 ⟨x,H1,I1,r1,q1⟩=>?_;refine aL q1 λa e aa q=>?_;refine oE aa λxs hq=>?_;subst e;cases r1;refine aL (I1.list hq) λak rv p hz=>?_;refine Hz p.isList ?_;refine⟨s1.heap.objs.size,[s1.heap.objs.size],_,_,H1,rfl,I1.kept (t':=s1.toks) λb o e=>bo _ e,aet a _,⟨_,gy _ rfl,rfl,rfl⟩,λb hb=>?_,q⟩;have e:b=s1.heap.objs.size:=by simpa using hb
 subst e;exact I1.fo (aF _) (I1.aG.fresh (aF _))
theorem tM{l:Expr}{tl:TE}(hl:PE X l tl):PI X tg l (WJ X.K tl):=by
 intro p_ s σ H R I h;refine aO (hl p_ s σ H _ I h) λv s1 ⟨x,H1,I1,r1,q1⟩=>?_;refine aL q1 λa e aa q=>?_;refine oE aa λxs hq=>?_;subst e;cases r1;refine aL (I1.tuple hq) λak rv p hz=>?_;refine wpAny_pyIter_tuple (show s1.heap.IsTuple a ak.toArray from p) ?_;refine⟨s1.heap.objs.size,[s1.heap.objs.size],_,_,H1,rfl,I1.kept (t':=s1.toks) λb o e=>bo _ e,adG a _,⟨_,gy _ rfl,rfl,rfl⟩,λb hb=>?_,q⟩;have e:b=s1.heap.objs.size:=by simpa using hb
 subst e;exact I1.fo (aF _) (I1.aG.fresh (aF _))
theorem SH{p_:List (Addr×Obj)}{σ:St}{H:Hp}{s:Shared}{R:It->Hp->Prop}{E:Value->Shared->Prop}{lo hi:Int}{t u v:Tok}{tk:Nat}(I:Inv X p_ σ H s)(h1:-(2^62)<=lo)(h2:lo<2^62)(h3:-(2^62)<=hi)(h4:hi<2^62)
  (q:R (xX lo (hi-lo).toNat) H):wpAny (model X.prog X.w) X.A (pyIter (.ref s.heap.objs.size)) (X0 X p_ σ tg R) E { s with heap:=s.heap.push { cls:=.type "range",data:=.fields #[.int lo t,.int hi u,.int 1 v] },toks:=tk }:=by
 refine wpAny_pyIter_range (IsRange.new ..) (small_one h1 h2 h3 h4) ?_;have I1:Inv X p_ σ H { s with heap:=s.heap.push { cls:=.type "range",data:=.fields #[.int lo t,.int hi u,.int 1 v] },toks:=tk }:=I.kept λb o e=>bo _ e;refine⟨(s.heap.push { cls:=.type "range",data:=.fields #[.int lo t,.int hi u,.int 1 v] }).objs.size,[(s.heap.push { cls:=.type "range",data:=.fields #[.int lo t,.int hi u,.int 1 v] }).objs.size],_,_,H,rfl,I1.kept (t':=tk) λb o e=>bo _ e,adH _ lo (hi-lo).toNat,?_,λb hb=>?_,q⟩
 ·have e1:lo+((0:Nat):Int)*1=lo:=by simp
  have e2:(((hi-lo).toNat:Nat):Int)-((0:Nat):Int)=Builtin.Range.rangeSize lo hi 1:=by rw[rangeSize_one];split <;> lia
  show IsRangeIter _ _ (lo+((0:Nat):Int)*1) ((((hi-lo).toNat:Nat):Int)-((0:Nat):Int)) 1;rw[e1,e2];exact gy _ rfl
 ·have e:b=(s.heap.push { cls:=.type "range",data:=.fields #[.int lo t,.int hi u,.int 1 v] }).objs.size:=by simpa using hb
  subst e;exact I1.fo (aF _) (I1.aG.fresh (aF _))
def amE(ta:TA):TI:=λσ H R=>ta σ H λvs H1=>∃j:Int,vs=[.int j]/\-(2^62)<=j/\j<2^62/\R (xX 0 j.toNat) H1
def amD(ta:TA):TI:=λσ H R=>ta σ H λvs H1=>∃i j:Int,vs=[.int i,.int j]/\(-(2^62)<=i/\i<2^62/\-(2^62)<=j/\j<2^62)/\R (xX i (j-i).toNat) H1
theorem wX{a:Expr}{ta:TA}{p pos:Pos}(hg:Gl X "range")(hm:X.mg "range" = none)(ha:PA X [a] ta)(hs:cg [a] X.env=[(false,eval a X.env)]:=by rfl):PI X tg (.Call (.Name "range" p) [a] [] pos) (amE ta):=by
 intro p_ s σ H R I h;refine Call_ (vp I hg hm boot_range (C0 (aO (ha pos p_ s σ H _ I h) λus s1 ⟨vs,H1,I1,r1,q1⟩=>?_) hs rfl));obtain⟨j,e,q1,q2,q⟩:=q1;subst e;cases r1 with
 | cons r rr=>
  cases rr;obtain⟨t,rfl⟩:=r;exact call_range_1 (SH I1 li li q1 q2 (by simpa using q))
theorem RI{a b:Expr}{ta:TA}{p pos:Pos}(hg:Gl X "range")(hm:X.mg "range" = none)(ha:PA X [a,b] ta)(hs:cg [a,b] X.env=[(false,eval a X.env),(false,eval b X.env)]:=by rfl)(mQ:cg [b] X.env=[(false,eval b X.env)]:=by rfl) :
  PI X tg (.Call (.Name "range" p) [a,b] [] pos) (amD ta):=by
 intro p_ s σ H R I h;refine Call_ (vp I hg hm boot_range (C0 (aO (ha pos p_ s σ H _ I h) λus s1 ⟨vs,H1,I1,r1,q1⟩=>?_) (by rw[hs,mQ]) (by rw[mQ];rfl)));obtain⟨i,j,e,⟨q1,q2,q3,q4⟩,q⟩:=q1;subst e;cases r1 with
 | cons r rr=>
  cases rr with
  | cons r' rr=>
   cases rr;obtain⟨t,rfl⟩:=r;obtain⟨t',rfl⟩:=r';exact call_range_2 (SH I1 q1 q2 q3 q4 q)
def anU(wi:TI)(g:TG)(tb:TS):TS:=λD σ H=>wi σ H λJ H1=>∃W:Nat->Nat->St->Hp->Prop,(∃m,W 0 m σ H1)/\∀i m σ H,W i m σ H->
 (J.stop i H/\D.nx σ H)\/(J.go i H/\∃N:St->Hp->Prop,(∀σ' H',N σ' H'->∃m',m'<m/\W (i+1) m' σ' H')/\∀x H',J.vP i H x H'->g x σ H' λσ2 H2=>tb { D with nx:=N,ct:=N,bk:=D.nx } σ2 H2)
def zh(fp:List Addr)(h:Heap):List (Addr×Obj):=fp.filterMap λb=>(h.get? b).map λo=>(b,o)
theorem yX{fp:List Addr}{h:Heap}{b:Addr}{o:Obj}(hb:b∈fp)(e:h.get? b=some o):(b,o)∈zh fp h:=Hx.mpr ⟨b,hb,by rw[e];rfl⟩
theorem RL{fp:List Addr}{h:Heap}{p:Addr×Obj}(hp:p∈zh fp h):p.1∈fp/\h.get? p.1=some p.2:=by
 refine ah (Hx.mp hp) λb hb e=>?_;cases q:h.get? b with
 | none=>rw[q]at e;cases e
 | some o=>
  rw[q]at e;have e':(b,o)=p:=iz e;subst e';exact⟨hb,q⟩
theorem Inv.pinned{p_:List (Addr×Obj)}{σ:St}{H:Hp}{s:Shared}{fp:List Addr}(I:Inv X p_ σ H s)(hf:∀b∈fp,cV X p_ H b)(ho:∀b∈fp,∃o,s.heap.get? b=some o/\∀v,o.data≠.cell v):Inv X (p_++zh fp s.heap) σ H s:=
 I.vh λp hp=>(jo.mp hp).elim (λz=>I.pin p (gg _ z)) λz=>by
  refine oA (RL z) λhb e=>?_;obtain⟨f0,f1,f2,_⟩:=(hf p.1 hb);refine ah (ho p.1 hb) λo e' d=>?_;rw[e]at e';cases e';exact⟨e,f0,f1,f2,d⟩
theorem Inv.DE{p_ pl:List (Addr×Obj)}{σ:St}{H:Hp}{s:Shared}(I:Inv X (p_++pl) σ H s):Inv X p_ σ H s:=I.vh λp hp=>I.pin p (gg _ (oS _ hp))
theorem rQ{iter:Expr}{body:List Stmt}{wi:TI}{g:TG}{tb:TS}{pos:Pos}(hp:lM (model X.prog X.w) X.A X.env X.xe)(hc:X.calm=true)(hi:PI X tg iter wi)(hg:PG X tg g)(hb:eE X body tb)
  (hs:∀x,HC iter X.env x=pure x:=by intro _;rfl):PS X (.For tg iter body [] pos) (anU wi g tb):=by
 intro p_ s σ H D I h;refine wpAny_For (aO (hi p_ s σ H _ I h) λv s1 h1=>aO h1 λCi s2 h2=>?_) hs;obtain⟨it,fp,tn,J,H2,e,I2,T,qJ,f2,aa⟩:=h2;refine ah aa λW aa turn=>?_;refine oE aa λm0 w0=>?_;subst e;have Nh:∀{H':Hp},(∀b∈fp,H' b=none)->∀b∈fp,cV X p_ H' b:=λhn b hb=>⟨hn b hb,(f2 b hb).2⟩;refine codeAny_forLoop_any (λn s'=>∃i σ' H',Inv X p_ σ' H' s'/\tn i s'.heap/\(∀b∈fp,H' b=none)/\W i n σ' H') ?_ m0 ⟨0,σ,H2,I2,qJ,λb hb=>(f2 b hb).1,w0⟩;rintro n s3 ⟨i,σ3,H3,I3,xZ,CL,w3⟩;rcases turn i n σ3 H3 w3 with ⟨stop,qn⟩ | ⟨go,N,hN,step⟩
 ·refine yJ hp (aO (T.done X rfl rfl rfl hc i p_ s3 σ3 H3 X.xe I3 (Nh CL) xZ stop) λr s4 ⟨hr,I4⟩=>?_);subst hr;exact AD ⟨σ3,H3,I4,qn⟩
 ·refine yJ hp (aO (T.item X rfl rfl rfl hc i p_ s3 σ3 H3 X.xe I3 (Nh CL) xZ go) λr s4 ⟨u,hr,h4⟩=>?_);subst hr;refine yJ hp (aO h4 λ_ s5 ⟨x,H5,I5,r5,y5,um,Am⟩=>?_);have PH:=I5.pinned (Nh Am) (T.obj _ _ um);refine yJ hp (aO (hg _ s5 σ3 H5 x u _ PH r5 (step x H5 y5)) λ_ s6 ⟨σ6,H6,I6,q6⟩=>?_);refine yJ hp (aO (hb _ s6 σ6 H6 _ I6 q6) λf s7 q7=>?_)
  have again:∀{σ7:St} {H7:Hp},Inv X (p_++zh fp s5.heap) σ7 H7 s7->N σ7 H7->∃m,m<n/\∃i σ' H',Inv X p_ σ' H' s7/\tn i s7.heap/\(∀b∈fp,H' b=none)/\W i m σ' H':=λ{σ7 H7} I7 n7=>by
   refine ah (hN σ7 H7 n7) λm' hm w7=>?_;refine⟨m',hm,i+1,σ7,H7,I7.DE,T.keep _ _ _ um λb hb o e=>(I7.pin (b,o) (gg _ (gg _ (yX hb e)))).1,λb hb=>?_,w7⟩;refine ah (T.obj _ _ um b hb) λo e d=>?_;exact(I7.pin (b,o) (gg _ (gg _ (yX hb e)))).2.1
  cases f with
  | next=>obtain⟨σ7,H7,I7,n7⟩:=q7;exact again I7 n7
  | cont=>obtain⟨σ7,H7,I7,n7⟩:=q7;exact again I7 n7
  | brk=>obtain⟨σ7,H7,I7,q7⟩:=q7;exact⟨σ7,H7,I7.DE,q7⟩
  | ret v=>obtain⟨x7,σ7,H7,I7,r7,q7⟩:=q7;exact⟨x7,σ7,H7,I7.DE,r7,q7⟩
end
theorem Tc{K:PySem.W.Frag}{a:Addr}{xs:List V}{g:TG}{tb:TS}{D:Ends}{σ:St}{H:Hp}(Pv:Nat->St->Hp->Prop)(h0:Pv 0 σ H)(hl:∀i σ H,i<=xs.length->Pv i σ H->av K H a xs)
  (hs:∀i x σ H,xs[i]?=some x->Pv i σ H->g x σ H λσ2 H2=>tb { D with nx:=Pv (i+1),ct:=Pv (i+1),bk:=D.nx } σ2 H2) (hd:∀σ H,Pv xs.length σ H->D.nx σ H) :
  ∃W:Nat->Nat->St->Hp->Prop,(∃m,W 0 m σ H)/\∀i m σ H,W i m σ H->
   ((zW K a).stop i H/\D.nx σ H)\/((zW K a).go i H/\∃N:St->Hp->Prop,(∀σ' H',N σ' H'->∃m',m'<m/\W (i+1) m' σ' H')/\∀x H',(zW K a).vP i H x H'->g x σ H' λσ2 H2=>tb { D with nx:=N,ct:=N,bk:=D.nx } σ2 H2):=by
 refine⟨λi m σ H=>m=xs.length-i/\i<=xs.length/\Pv i σ H,⟨xs.length,by simp,bX _,h0⟩,?_⟩;rintro i m σ H ⟨rfl,hi,p⟩;have q:=hl i σ H hi p
 by_cases dB:i<xs.length
 ·refine .inr ⟨⟨xs,xs[i],q,by simp[dB]⟩,Pv (i+1),λσ' H' p'=>⟨xs.length-(i+1),om,rfl,dB,p'⟩,λx H' y=>?_⟩;obtain⟨e,y⟩:=y;subst e;exact hs i x σ _ (y xs q) p
 ·have e:i=xs.length:=li;subst e;exact .inl ⟨⟨xs,q,aF _⟩,hd σ H p⟩
theorem AW{lo:Int}{n:Nat}{g:TG}{tb:TS}{D:Ends}{σ:St}{H:Hp}(Pv:Nat->St->Hp->Prop)(h0:Pv 0 σ H)
  (hs:∀i σ H,i<n->Pv i σ H->g (.int (lo+i)) σ H λσ2 H2=>tb { D with nx:=Pv (i+1),ct:=Pv (i+1),bk:=D.nx } σ2 H2) (hd:∀σ H,Pv n σ H->D.nx σ H) :
  ∃W:Nat->Nat->St->Hp->Prop,(∃m,W 0 m σ H)/\∀i m σ H,W i m σ H->
   ((xX lo n).stop i H/\D.nx σ H)\/((xX lo n).go i H/\∃N:St->Hp->Prop,(∀σ' H',N σ' H'->∃m',m'<m/\W (i+1) m' σ' H')/\∀x H',(xX lo n).vP i H x H'->g x σ H' λσ2 H2=>tb { D with nx:=N,ct:=N,bk:=D.nx } σ2 H2):=by
 refine⟨λi m σ H=>m=n-i/\i<=n/\Pv i σ H,⟨n,by simp,bX _,h0⟩,?_⟩;rintro i m σ H ⟨rfl,hi,p⟩
 by_cases dB:i<n
 ·refine .inr ⟨dB,Pv (i+1),λσ' H' p'=>⟨n-(i+1),om,rfl,dB,p'⟩,λx H' y=>?_⟩;obtain⟨e,y⟩:=y;subst e y;exact hs i σ _ dB p
 ·have e:i=n:=li;subst e;exact .inl ⟨aF _,hd σ H p⟩
abbrev R2:=V->V->Hp->VK->Prop
def eG(X:Cx)(f:Value->Value->Sem Value)(r:R2):Prop:=
 ∀(p_:List (Addr×Obj)) (s:Shared) (σ:St) (H:Hp) (x y:V) (v u:Value) (Q:VK),Inv X p_ σ H s->RelV x v->RelV y u->r x y H Q->
  wpAny (model X.prog X.w) X.A (f v u) (EP X p_ σ Q) X.xe s
def NU(X:Cx)(f:Value->Sem Value)(r:V->Hp->VK->Prop):Prop:=
 ∀(p_:List (Addr×Obj)) (s:Shared) (σ:St) (H:Hp) (x:V) (v:Value) (Q:VK),Inv X p_ σ H s->RelV x v->r x H Q->
  wpAny (model X.prog X.w) X.A (f v) (EP X p_ σ Q) X.xe s
def mi(X:Cx)(f:Value)(r:List V->Hp->VK->Prop):Prop:=
 ∀(p_:List (Addr×Obj)) (s:Shared) (σ:St) (H:Hp) (xs:List V) (us:List Value) (Q:VK),Inv X p_ σ H s->Vals xs us->r xs H Q->
  wpAny (model X.prog X.w) X.A (call f us) (EP X p_ σ Q) X.xe s
abbrev sr(r:R2)(ta tb:TE):TE:=λσ H Q=>ta σ H λx H1=>tb σ H1 λy H2=>r x y H2 Q
abbrev tUn(r:V->Hp->VK->Prop)(ta:TE):TE:=λσ H Q=>ta σ H λx H1=>r x H1 Q
def rI(C:Int->Int->Prop)(g:Int->Int->V):R2:=λx y H Q=>∃i j,x=.int i/\y=.int j/\C i j/\Q (g i j) H
def vS(g:Int->Int->V):R2:=λx y H Q=>∃i j,x=.int i/\y=.int j/\Q (g i j) H
def rU(g:Int->V):V->Hp->VK->Prop:=λx H Q=>∃i,x=.int i/\Q (g i) H
section
variable{X:Cx}{a b c:Expr}{ta tb tc:TE}{pos:Pos}
theorem Nc(ha:PE X a ta)(hb:PE X b tb){p_:List (Addr×Obj)}{s:Shared}{σ:St}{H:Hp}{R:V->V->Hp->Prop}(I:Inv X p_ σ H s)
  (h:ta σ H λx H1=>tb σ H1 λy H2=>R x y H2) {Q:Value->Shared->Prop} {f:Value->Value->Sem Value}
  (hf:∀v u s2 x y H2,Inv X p_ σ H2 s2->RelV x v->RelV y u->R x y H2->wpAny (model X.prog X.w) X.A (f v u) Q X.xe s2) :
  wpAny (model X.prog X.w) X.A (eval a X.env) (λv s₁=>wpAny (model X.prog X.w) X.A (eval b X.env) (λu s₂=>wpAny (model X.prog X.w) X.A (f v u) Q X.xe s₂) X.xe s₁) X.xe s:=by
 refine aO (ha p_ s σ H _ I h) λv s1 ⟨x,H1,I1,r1,q1⟩=>?_;refine aO (hb p_ s1 σ H1 _ I1 q1) λu s2 ⟨y,H2,I2,r2,q2⟩=>?_;exact hf v u s2 x y H2 I2 r1 r2 q2
theorem a7{op:Operator}{r:R2}(ho:eG X (qe op) r)(ha:PE X a ta)(hb:PE X b tb):PE X (.BinOp a op b pos) (sr r ta tb):=by
 intro p_ s σ H Q I h;exact wpAny_BinOp (Nc ha hb I h λv u s2 x y H2 I2 rx ry q=>ho p_ s2 σ H2 x y v u Q I2 rx ry q)
theorem VI{op:UnaryOp}{r:V->Hp->VK->Prop}(ho:NU X (unaryOp op) r)(ha:PE X a ta):PE X (.UnaryOp op a pos) (tUn r ta):=by
 intro p_ s σ H Q I h;exact UnaryOp_ (aO (ha p_ s σ H _ I h) λv s1 ⟨x,H1,I1,r1,q1⟩=>ho p_ s1 σ H1 x v Q I1 r1 q1)
theorem NO{f:Value->Value->Sem Value}{C:Int->Int->Prop}{g:Int->Int->Int}
  (rule:∀(i j:Int) (t u:Tok) (s:Shared) (Q:Value->Shared->Prop) (E:Value->Shared->Prop),C i j->Q (.int (g i j) s.toks) { s with toks:=s.toks+1 }->wpAny (model X.prog X.w) X.A (f (.int i t) (.int j u)) Q E s) :
  eG X f (rI C λi j=>.int (g i j)):=by
 intro p_ s σ H x y v u Q I rx ry h;refine nW h λi j aa bc hc q=>?_;clear h;subst aa;subst bc;obtain⟨t,rfl⟩:=rx;obtain⟨t',rfl⟩:=ry;exact rule i j t t' s _ _ hc ⟨.int (g i j),H,I.tok _,⟨_,rfl⟩,q⟩
theorem WD{f:Value->Value->Sem Value}{g:Int->Int->Int}
  (rule:∀(i j:Int) (t u:Tok) (s:Shared) (Q:Value->Shared->Prop) (E:Value->Shared->Prop),Q (.int (g i j) s.toks) { s with toks:=s.toks+1 }->wpAny (model X.prog X.w) X.A (f (.int i t) (.int j u)) Q E s) :
  eG X f (vS λi j=>.int (g i j)):=by
 intro p_ s σ H x y v u Q I rx ry h;refine cG h λi j aa bc q=>?_;clear h;subst aa;subst bc;obtain⟨t,rfl⟩:=rx;obtain⟨t',rfl⟩:=ry;exact rule i j t t' s _ _ ⟨.int (g i j),H,I.tok _,⟨_,rfl⟩,q⟩
theorem E6{f:Value->Value->Sem Value}{g:Int->Int->Bool}
  (rule:∀(i j:Int) (t u:Tok) (s:Shared) (Q:Value->Shared->Prop) (E:Value->Shared->Prop),Q (.bool (g i j)) s->wpAny (model X.prog X.w) X.A (f (.int i t) (.int j u)) Q E s) :
  eG X f (vS λi j=>.bl (g i j)):=by
 intro p_ s σ H x y v u Q I rx ry h;refine cG h λi j aa bc q=>?_;clear h;subst aa;subst bc;obtain⟨t,rfl⟩:=rx;obtain⟨t',rfl⟩:=ry;exact rule i j t t' s _ _ ⟨.bl (g i j),H,I,rfl,q⟩
def aom(i j:Int):Prop:=0<j/\j<1073741824
def Ng(i j:Int):Prop:=(-(2^64)<i/\i<2^64)\/(-(2^64)<j/\j<2^64)
theorem Ng.ok{i j:Int}(h:Ng i j):IntMulOk i j:=by
 rcases h with ⟨h1,h2⟩ | ⟨h1,h2⟩
 ·exact .of_left (intBits_le_64 h1 h2)
 ·exact .of_right (intBits_le_64 h1 h2)
theorem kz:eG X (qe .Add) (vS λi j=>.int (i+j)):=WD λ_ _ _ _ _ _ _ q=>add_int q
theorem Ej:eG X (qe .Sub) (vS λi j=>.int (i-j)):=WD λ_ _ _ _ _ _ _ q=>sub_int q
theorem Bp:eG X (qe .Mult) (rI Ng λi j=>.int (i*j)):=NO λ_ _ _ _ _ _ _ hc q=>mul_int q hc.ok
theorem jL:eG X (qe .FloorDiv) (rI aom λi j=>.int (i/j)):=NO λi j _ _ _ _ _ hc q=>by
 have h1:(0:Int)<j:=hc.1;have h2:j<1073741824:=hc.2;exact floordiv_int li (by rw[Int.fdiv_eq_ediv_of_nonneg i li];exact q) (.inl (PyProof.noPylong_small om))
theorem fg:eG X (qe .Mod) (rI (λ_ j=>0<j) λi j=>.int (i%j)):=NO λi j _ _ _ _ _ hc q=>by
 have h1:(0:Int)<j:=hc;exact mod_int' li (by rw[Int.fmod_eq_emod_of_nonneg i li];exact q)
theorem unI{f:Value->Sem Value}{g:Int->Int}
  (rule:∀(i:Int) (t:Tok) (s:Shared) (Q:Value->Shared->Prop) (E:Value->Shared->Prop),Q (.int (g i) s.toks) { s with toks:=s.toks+1 }->wpAny (model X.prog X.w) X.A (f (.int i t)) Q E s) :
  NU X f (rU λi=>.int (g i)):=by
 intro p_ s σ H x v Q I rx h;refine ah h λi aa q=>?_;clear h;subst aa;obtain⟨t,rfl⟩:=rx;exact rule i t s _ _ ⟨.int (g i),H,I.tok _,⟨_,rfl⟩,q⟩
theorem UJ:NU X (unaryOp .USub) (rU λi=>.int (-i)):=unI λ_ _ _ _ _ q=>neg_int q
end
def Wy:V->V->Bool
 | .aJ,.aJ=>true | .aJ,.int _=>true | .int _,.aJ=>true | .aJ,.bl _=>true | .bl _,.aJ=>true | .aJ,.str _=>true | .str _,.aJ=>true
 | .int _,.int _=>true | .bl _,.bl _=>true | .str _,.str _=>true | .pM _,.pM _=>true
 | .int _,.str _=>true | .str _,.int _=>true | .bl _,.str _=>true | .str _,.bl _=>true
 | _,_=>false
def XQ:R2:=λx y H Q=>Wy x y=true/\Q (.bl (decide (x=y))) H
def rNe:R2:=λx y H Q=>Wy x y=true/\Q (.bl (!decide (x=y))) H
theorem D9{i j:Int}:decide (V.int i=V.int j)=(i == j):=by
 rw[HR];simp
theorem Vj{i j:Bool}:decide (V.bl i=V.bl j)=(i == j):=by
 rw[HR];simp
theorem Uu{i j:Str}:decide (V.str i=V.str j)=(i == j):=by
 rw[HR];simp
theorem Uv{i j:Array UInt8}:decide (V.pM i=V.pM j)=(i.toList == j.toList):=by
 rw[HR];cases i;cases j;simp
section
variable{X:Cx}{a b c:Expr}{ta tb tc:TE}{pos:Pos}
theorem eU{p_:List (Addr×Obj)}{σ:St}{H:Hp}{s:Shared}{Q:VK}{k k':Bool}(I:Inv X p_ σ H s)(q:Q (.bl k) H)(e:k=k'):EP X p_ σ Q (.bool k') s:=by
 subst e;exact⟨.bl k,H,I,rfl,q⟩
theorem eC:eG X (kr .Eq) XQ:=by
 intro p_ s σ H x y v u Q I rx ry h;refine oA h λhs q=>?_;cases x with
 | aJ=>
  cases rx;cases y with
  | aJ=>cases ry;exact PySem.EqNone.eq_none_none (eU I q (by simp))
  | bl j=>cases ry;exact PySem.EqNone.eq_none_bool (eU I q (by simp))
  | int j=>obtain⟨t',rfl⟩:=ry;exact PySem.EqNone.eq_none_int (eU I q (by simp))
  | str j=>obtain⟨t',rfl⟩:=ry;exact PySem.EqNone.eq_none_str (eU I q (by simp))
  | _=>exact absurd (show false=true from hs) dh
 | bl i=>
  cases rx;cases y with
  | aJ=>cases ry;exact PySem.EqNone.eq_bool_none (eU I q (by simp))
  | bl j=>cases ry;exact eq_bool (eU I q Vj)
  | str j=>obtain⟨t',rfl⟩:=ry;exact PySem.EqMixed.eq_bool_str (eU I q (by simp))
  | _=>exact absurd (show false=true from hs) dh
 | int i=>
  obtain⟨t,rfl⟩:=rx;cases y with
  | aJ=>cases ry;exact PySem.EqNone.eq_int_none (eU I q (by simp))
  | int j=>obtain⟨t',rfl⟩:=ry;exact eq_int (eU I q D9)
  | str j=>obtain⟨t',rfl⟩:=ry;exact PySem.EqMixed.eq_int_str (eU I q (by simp))
  | _=>exact absurd (show false=true from hs) dh
 | str i=>
  obtain⟨t,rfl⟩:=rx;cases y with
  | aJ=>cases ry;exact PySem.EqNone.eq_str_none (eU I q (by simp))
  | bl j=>cases ry;exact PySem.EqMixed.eq_str_bool (eU I q (by simp))
  | int j=>obtain⟨t',rfl⟩:=ry;exact PySem.EqMixed.eq_str_int (eU I q (by simp))
  | str j=>obtain⟨t',rfl⟩:=ry;exact eq_str (eU I q Uu)
  | _=>exact absurd (show false=true from hs) dh
 | pM i=>
  obtain⟨t,rfl⟩:=rx;cases y with
  | pM j=>obtain⟨t',rfl⟩:=ry;exact W.eq_bytes (eU I q Uv)
  | _=>exact absurd (show false=true from hs) dh
 | _=>cases y <;> exact absurd (show false=true from hs) dh
theorem VL:eG X (kr .NotEq) rNe:=by
 intro p_ s σ H x y v u Q I rx ry h;refine oA h λhs q=>?_;cases x with
 | aJ=>
  cases rx;cases y with
  | aJ=>cases ry;exact PySem.EqNone.ne_none_none (eU I q (by simp))
  | bl j=>cases ry;exact PySem.EqNone.ne_none_bool (eU I q (by simp))
  | int j=>obtain⟨t',rfl⟩:=ry;exact PySem.EqNone.ne_none_int (eU I q (by simp))
  | str j=>obtain⟨t',rfl⟩:=ry;exact PySem.EqNone.ne_none_str (eU I q (by simp))
  | _=>exact absurd (show false=true from hs) dh
 | bl i=>
  cases rx;cases y with
  | aJ=>cases ry;exact PySem.EqNone.ne_bool_none (eU I q (by simp))
  | bl j=>cases ry;exact ne_bool (eU I q (congrArg not Vj))
  | str j=>obtain⟨t',rfl⟩:=ry;exact PySem.EqMixed.ne_bool_str (eU I q (by simp))
  | _=>exact absurd (show false=true from hs) dh
 | int i=>
  obtain⟨t,rfl⟩:=rx;cases y with
  | aJ=>cases ry;exact PySem.EqNone.ne_int_none (eU I q (by simp))
  | int j=>obtain⟨t',rfl⟩:=ry;exact ne_int (eU I q (congrArg not D9))
  | str j=>obtain⟨t',rfl⟩:=ry;exact PySem.EqMixed.ne_int_str (eU I q (by simp))
  | _=>exact absurd (show false=true from hs) dh
 | str i=>
  obtain⟨t,rfl⟩:=rx;cases y with
  | aJ=>cases ry;exact PySem.EqNone.ne_str_none (eU I q (by simp))
  | bl j=>cases ry;exact PySem.EqMixed.ne_str_bool (eU I q (by simp))
  | int j=>obtain⟨t',rfl⟩:=ry;exact PySem.EqMixed.ne_str_int (eU I q (by simp))
  | str j=>obtain⟨t',rfl⟩:=ry;exact ne_str (eU I q (congrArg not Uu))
  | _=>exact absurd (show false=true from hs) dh
 | pM i=>
  obtain⟨t,rfl⟩:=rx;cases y with
  | pM j=>obtain⟨t',rfl⟩:=ry;exact W.ne_bytes (eU I q (congrArg not Uv))
  | _=>exact absurd (show false=true from hs) dh
 | _=>cases y <;> exact absurd (show false=true from hs) dh
theorem Bx:eG X (kr .Lt) (vS λi j=>.bl (decide (i<j))):=E6 λ_ _ _ _ _ _ _ q=>lt_int q
theorem Mf:eG X (kr .LtE) (vS λi j=>.bl (decide (i<=j))):=E6 λ_ _ _ _ _ _ _ q=>le_int q
theorem EF:eG X (kr .Gt) (vS λi j=>.bl (decide (j<i))):=E6 λ_ _ _ _ _ _ _ q=>gt_int q
theorem Mg:eG X (kr .GtE) (vS λi j=>.bl (decide (j<=i))):=E6 λ_ _ _ _ _ _ _ q=>ge_int q
theorem U2:eG X (kr .Is) (λx y H Q=>y=.aJ/\Q (.bl (decide (x=.aJ))) H):=by
 intro p_ s σ H x y v u Q I rx ry h;refine oA h λaa q=>?_;clear h;subst aa;cases ry;refine is_none_gen (eU I q ?_)
 cases x <;> first
  | (cases rx;rfl)
  | (obtain⟨t,rfl⟩:=rx;rfl)
theorem bU(b:Expr){op:CmpOp}(h:op≠.In:=by decide)(h2:op≠.NotIn:=by decide):Ib op b=false:=by
 have e1:(op == CmpOp.In)=false:=by cases op <;> first | rfl | exact absurd rfl h
 have e2:(op == CmpOp.NotIn)=false:=by cases op <;> first | rfl | exact absurd rfl h2
 cases b <;> simp[Ib,e1,e2]
theorem tH{op:CmpOp}{r:R2}(ho:eG X (kr op) r)(ha:PE X a ta)(hb:PE X b tb)(hm:Ib op b=false):PE X (.Compare a [op] [b] pos) (sr r ta tb):=by
 intro p_ s σ H Q I h;exact wpAny_Compare1 (Nc ha hb I h λv u s2 x y H2 I2 rx ry q=>ho p_ s2 σ H2 x y v u Q I2 rx ry q) hm
abbrev LW(t:TE):TT:=λσ H Q=>t σ H λx H'=>∃k,x=.bl k/\Q k H'
theorem cw{op:CmpOp}{r:R2}(ho:eG X (kr op) r)(ha:PE X a ta)(hb:PE X b tb)(hm:Ib op b=false):PT X (.Compare a [op] [b] pos) (LW (sr r ta tb)):=by
 intro p_ s σ H Q I h
 refine wpAny_isTrue_Compare1 (aO (ha p_ s σ H _ I h) λv s1 ⟨x,H1,I1,r1,q1⟩=>aO (hb p_ s1 σ H1 _ I1 q1) λu s2 ⟨y,H2,I2,r2,q2⟩=>
  aO (ho p_ s2 σ H2 x y v u _ I2 r1 r2 q2) λc s3 ⟨z,H3,I3,r3,k,e,q3⟩=>?_) hm
 subst e;cases r3;exact sX ⟨H3,I3,q3⟩
def UL(r r':R2)(ta tb tc:TE):TE:=λσ H Q=>ta σ H λx H1=>tb σ H1 λy H2=>r x y H2 λz H3=>∃k,z=.bl k/\
 (if k=true then tc σ H3 λw' H4=>r' y w' H4 Q else Q (.bl false) H3)
theorem age{op ye:CmpOp}{r r':R2}(ho:eG X (kr op) r)(qQ:eG X (kr ye) r')(ha:PE X a ta)(hb:PE X b tb)(hc:PE X c tc)
  (hm:lastMarks [op,ye] [b,c]=false:=by with_unfolding_all rfl):PE X (.Compare a [op,ye] [b,c] pos) (UL r r' ta tb tc):=by
 intro p_ s σ H Q I h
 refine Compare_chain (aO (ha p_ s σ H _ I h) λv s1 ⟨x,H1,I1,r1,q1⟩=>chain_link (aO (hb p_ s1 σ H1 _ I1 q1) λu s2 ⟨y,H2,I2,r2,q2⟩=>
  aO (ho p_ s2 σ H2 x y v u _ I2 r1 r2 q2) λd s3 ⟨z,H3,I3,r3,k,e,q3⟩=>?_)) hm
 subst e;cases r3;refine sX ?_;cases k with
 | false=>exact ite_ff ⟨.bl false,H3,I3,rfl,q3⟩
 | true=>exact ite_tt (chain_last (aO (hc p_ s3 σ H3 _ I3 q3) λw' s4 ⟨z',H4,I4,r4,q4⟩=>qQ p_ s4 σ H4 y z' u w' Q I4 r2 r4 q4))
theorem af7{op ye:CmpOp}{r r':R2}(ho:eG X (kr op) r)(qQ:eG X (kr ye) r')(ha:PE X a ta)(hb:PE X b tb)(hc:PE X c tc)
  (hm:lastMarks [op,ye] [b,c]=false:=by with_unfolding_all rfl):PT X (.Compare a [op,ye] [b,c] pos) (LW (UL r r' ta tb tc)):=by
 intro p_ s σ H Q I h
 refine isTrue_chain (aO (ha p_ s σ H _ I h) λv s1 ⟨x,H1,I1,r1,q1⟩=>test_link (aO (hb p_ s1 σ H1 _ I1 q1) λu s2 ⟨y,H2,I2,r2,q2⟩=>
  aO (ho p_ s2 σ H2 x y v u _ I2 r1 r2 q2) λd s3 ⟨z,H3,I3,r3,k,e,q3⟩=>?_)) hm
 subst e;cases r3;refine sX ?_;cases k with
 | false=>
  refine ah q3 λk' e' q'=>?_;cases e';exact ite_ff ⟨H3,I3,q'⟩
 | true=>
  refine ite_tt (test_last (aO (hc p_ s3 σ H3 _ I3 q3) λw' s4 ⟨z',H4,I4,r4,q4⟩=>aO (qQ p_ s4 σ H4 y z' u w' _ I4 r2 r4 q4) λd' s5 ⟨z2,H5,I5,r5,k2,e2,q5⟩=>?_));subst e2;cases r5;exact sX ⟨H5,I5,q5⟩
theorem Bt:(aP:Nat)<2^63:=by rw[lu];decide
theorem vals1{x:V}{us:List Value}(r:Vals [x] us):∃u,us=[u]/\RelV x u:=by
 cases r with
 | cons r1 r2=>cases r2;exact⟨_,rfl,r1⟩
theorem vals2{x y:V}{us:List Value}(r:Vals [x,y] us):∃u w',us=[u,w']/\RelV x u/\RelV y w':=by
 cases r with
 | cons r1 r2=>
  cases r2 with
  | cons r3 r4=>cases r4;exact⟨_,_,rfl,r1,r3⟩
theorem afF(hc:X.calm=true):mi X (.builtin "min") (λxs H Q=>∃i j,xs=[.int i,.int j]/\Q (.int (if j<i then j else i)) H):=by
 intro p_ s σ H xs us Q I r h;refine a9 h λi j aa q=>?_;clear h;subst aa;refine cG (vals2 r) λu w' aa bc FN=>?_;subst aa;refine oE bc λt aa=>?_;clear bc;subst aa;refine oE FN λt' aa=>?_;clear FN;subst aa;refine min_two_ints (I.ok.hd hc) λh' tk k=>⟨_,H,I.kept k,?_,q⟩
 by_cases hj:j<i
 ·rw[if_pos hj,if_pos hj];exact⟨_,rfl⟩
 ·rw[if_neg hj,if_neg hj];exact⟨_,rfl⟩
theorem DC:mi X (.type "int") (λxs H Q=>(∃i,xs=[.int i]/\Q (.int i) H)\/∃k,xs=[.bl k]/\Q (.int (if k then 1 else 0)) H):=by
 intro p_ s σ H xs us Q I r h;rcases h with ⟨i,rfl,q⟩ | ⟨k,rfl,q⟩
 ·refine ah (vals1 r) λu aa bc=>?_;subst aa;refine oE bc λt aa=>?_;clear bc;subst aa;exact call_int_int ⟨.int i,H,I,⟨_,rfl⟩,q⟩
 ·refine ah (vals1 r) λu aa r1=>?_;subst aa;cases r1;exact call_int_bool ⟨.int (if k then 1 else 0),H,I.tok _,⟨_,rfl⟩,q⟩
end
structure xD(h:Heap)(x dx C:Addr)(mA:Str->Option Value):Prop where
 obj:h.get? x=some (W.instObj C dx)
 ns:h.Ns1 dx mA
 ne:dx≠x
theorem IY{h:Heap}{dx:Addr}{mA:Str->Option Value}(n:h.Ns1 dx mA):∃od,h.get? dx=some od/\∀name,W.lookIn name od=some (mA name):=by
 obtain⟨o,es,ep,ho,hd,hk,_,hm⟩:=n;refine⟨o,ho,λname=>?_⟩;have e:=hm name;unfold nsFind findBy at e;rw[<-Array.find?_toList]at e;unfold W.lookIn;rw[hd];dsimp only
 split
 ·rename_i y q
  rw[q]at e;exact congrArg some e
 ·rename_i q
  rw[q]at e
  have a:es.toList.any (·.refKey)=false:=by
   rw[List.any_eq_false];intro y hy;refine xO (hk y (Array.mem_toList_iff.mp hy)) λz t ao3=>?_;simp[DictEntry.refKey,ao3]
  have a':¬es.toList.any (·.refKey)=true:=by rw[a];exact dh
  rw[if_neg a'];exact congrArg some e
theorem xD.look{h:Heap}{x dx C:Addr}{mA:Str->Option Value}(I:xD h x dx C mA):∃od,W.InstAt h x (W.instObj C dx) C (some od)/\∀name,W.lookIn name od=some (mA name):=
 let ⟨od,ho,hl⟩:=IY I.ns
 ⟨od,⟨I.obj,rfl,rfl,ho⟩,hl⟩
section
variable{prog:Program}{w:World}{A:Around}{E:Value->Shared->Prop}{s:Shared}{K:W.Frag}{x dx C f:Addr}{mA:Str->Option Value}{name:Str}{v:Value}
theorem get_map{expr:Bool}{Q:Value->Shared->Prop}(X:K.In s.heap)(I:xD s.heap x dx C mA)(hg:W.plainGet K C name=true)(hh:W.hasDictIn K C=true)
  (ha:W.findIn K (.ref C) name=some none) (hv:mA name=some v) (OH:W.handedIn v=true) (h:Q v { s with toks:=s.toks+1 }) :
  wpAny (model prog w) A (getAttr (.ref x) name expr) Q E s:=by
 refine ah I.look λod J hl=>?_;exact W.get_value X J (W.plainGet_of hg).1 (W.findObj_own hh ha rfl (by rw[hl,hv])) OH h
theorem agT{pl:Sem Bool}{Q:Value×List Value->Shared->Prop}(X:K.In s.heap)(I:xD s.heap x dx C mA)(hg:W.plainGet K C name=true)
  (hf:W.findIn K (.ref C) name=some (some (.ref f))) (ht:W.isFn K (.ref f)=true) (hv:mA name=none) (h:Q (.ref f,[.ref x]) s) :
  wpAny (model prog w) A (A0 (.ref x) name pl) Q E s:=by
 refine ah I.look λod J hl=>?_;exact W.method_fn X J (W.plainGet_of hg).1 (W.plainGet_of hg).2 hf (beq_iff_eq.mp ht) (by show (W.lookIn name od).map (·.isSome)=some false;rw[hl,hv];rfl) h
theorem ahX{ns:List Str}{Q:Unit->Shared->Prop}(X:K.In s.heap)(I:xD s.heap x dx C mA)
  (hs:W.findIn K (.ref C) "__setattr__" = some (some (.builtin "object.__setattr__"))) (hp:W.plainOver K C=true) (ht:W.takerIn K C name=some none) (hh:W.hasDictIn K C=true)
  (hw:PySem.Within mA ns) (fu:ns.length<=aP)
  (h:∀h',xD h' x dx C (λy=>if y=name then some v else mA y)->tj dx s.heap h'->Q () { s with heap:=h',toks:=s.toks+2 }) :
  wpAny (model prog w) A (setAttr (.ref x) name v) Q E s:=by
 refine ah I.look λod J hl=>?_;refine W.set_plain X J hs (W.osa_open (s:={ s with toks:=s.toks+1 }) (r:=none) X J hp ht λb=>?_);refine ah (W.any_some hh) λcd hc yv=>?_;have hx:s.heap.get? x=some ⟨.ref C,some dx,.plain,#[]⟩:=I.obj;refine aq (aN (aq (aq (HU hx (aq (W.Looks.here (s:={ s with toks:=s.toks+1 }) (W.looks_clsIn X hc) ?_))))));rw[yv];refine aN (a:=some dx) (aq (aN (aq ?_)));refine QI (s:={ s with toks:=s.toks+1 }) I.ns λh' wy mQ=>?_;refine kA (wy.count (PySem.Within.cons name v hw)) λoD esD epD Cq Cy Cz=>?_;refine aq (Qg Cq (by rw[Cy];exact Qh (cu Cz (by rw[fG];exact wb))) ?_);exact aN (h _ ⟨(mQ.2 _ (dU I.ne)).trans I.obj,wy,I.ne⟩ mQ)
theorem SS{R:Result->Shared->Prop}{vs:List Value}{kw:List (Str×Value)}(X:K.In s.heap)(hm:W.makesIn K C=true)
  (hi:W.findIn K (.ref C) "__init__" = some (some (.ref f))) (hf:W.typeIn K (.ref f)=some (.type "function"))
  (h:codeAny (model prog w) (A.under (.builtin "type.__call__" ⟨.ref C::vs,kw⟩)) (.call (.ref f) ⟨.ref (s.heap.objs.size+1)::vs,kw⟩) (W.InitBack (s.heap.objs.size+1) R)
   {s with heap:=(s.heap.push W.emptyDict).push (W.instObj C s.heap.objs.size) }) :
  codeAny (model prog w) A (.call (.ref C) ⟨vs,kw⟩) R s:=by
 obtain⟨hh,g,d,t,os⟩:=s;exact W.make_core (W.makes_of X hm) (W.looks_findIn X hi) (λself=>W.bind_fn X self hf) (.inl rfl) h
end
def aD(f:Str)(v:V):List (Str×V)->List (Str×V)
 | []=>[(f,v)]
 | (g,x)::r=>if g=f then (g,v)::r else (g,x)::aD f v r
theorem eP(f g:Str)(v:V):∀fs:List (Str×V),(aD f v fs).lookup g=if g=f then some v else fs.lookup g
 | []=>by
  show wR g [(f,v)]=_
  by_cases h:g=f
  ·have hb:(g == f)=true:=beq_iff_eq.mpr h;simp only[wR,hb,if_pos h]
  ·have hb:(g == f)=false:=beq_eq_false_iff_ne.mpr h;simp only[wR,hb,if_neg h]
 | (k,x)::r=>by
  have ih:=eP f g v r;rw[show aD f v ((k,x)::r)=(if k=f then (k,v)::r else (k,x)::aD f v r) from rfl]
  by_cases hk:k=f
  ·rw[if_pos hk]
   by_cases h:g=k
   ·have hb:(g == k)=true:=beq_iff_eq.mpr h;simp only[wR,hb,if_pos (h.trans hk)]
   ·have hb:(g == k)=false:=beq_eq_false_iff_ne.mpr h;simp only[wR,hb,if_neg λe:g=f=>h (e.trans hk.symm)]
  ·rw[if_neg hk]
   by_cases h:g=k
   ·have hb:(g == k)=true:=beq_iff_eq.mpr h;simp only[wR,hb,if_neg λe:g=f=>hk (h.symm.trans e)]
   ·have hb:(g == k)=false:=beq_eq_false_iff_ne.mpr h;simp only[wR,hb];exact ih
theorem AV(f:Str)(v:V):∀fs:List (Str×V),f∈(aD f v fs).map (·.1)/\∀g,g∈fs.map (·.1)->g∈(aD f v fs).map (·.1)
 | []=>⟨by simp[aD],λg h=>by simp at h⟩
 | (k,x)::r=>by
  refine oA (AV f v r) λi1 i2=>?_;rw[show aD f v ((k,x)::r)=(if k=f then (k,v)::r else (k,x)::aD f v r) from rfl]
  by_cases hk:k=f
  ·rw[if_pos hk];subst hk;exact⟨by simp,λg h=>by simpa using h⟩
  ·rw[if_neg hk];refine⟨?_,λg h=>?_⟩
   ·rw[iF];exact dn _ i1
   ·rw[iF]at h ⊢;rcases bq.mp h with e | e
    ·exact bq.mpr (.inl e)
    ·exact dn _ (i2 g e)
theorem ko(f:Str)(v:V):∀fs:List (Str×V),(aD f v fs).length<=fs.length+1
 | []=>by simp[aD]
 | (k,x)::r=>by
  have ih:=ko f v r;rw[show aD f v ((k,x)::r)=(if k=f then (k,v)::r else (k,x)::aD f v r) from rfl]
  by_cases hk:k=f
  ·rw[if_pos hk,fG,fG];exact xd
  ·rw[if_neg hk,fG,fG];lia
theorem lR.some_of{v:V}{o:Option Value}(r:lR (some v) o):∃u,o=some u/\RelV v u:=by
 cases o with
 | none=>exact(show False from r).elim
 | some u=>exact⟨u,rfl,r⟩
theorem lR.none_of{o:Option Value}(r:lR none o):o=none:=by
 cases o with
 | none=>rfl
 | some u=>exact(show False from r).elim
theorem RU{v:V}{u:Value}(r:RelV v u):W.handedIn u=true:=by
 cases v with
 | aJ=>cases (show u=iI from r);rfl
 | bl b=>cases (show u=uV b from r);rfl
 | int i=>obtain⟨t,e⟩:=(show ∃t,u=nh i t from r);cases e;rfl
 | str x=>obtain⟨t,e⟩:=(show ∃t,u=A5 x t from r);cases e;rfl
 | pM b=>obtain⟨t,e⟩:=(show ∃t,u=Value.bytes b t from r);cases e;rfl
 | ud b=>obtain⟨t,e⟩:=(show ∃t,u=QY b t from r);cases e;rfl
 | ref a=>cases (show u=cb a from r);rfl
 | ty n=>cases (show u=oY n from r);rfl
section
variable{P:Program}{w:World}{H H':Hp}{h h':Heap}{a C dx:Addr}{fs lY:List (Str×V)}
theorem D6(aG:eX P w H h)(e:H a=some (.ins C dx fs)):∃mA,xD h a dx C mA/\(∀f,lR (fs.lookup f) (mA f))/\PySem.Within mA (fs.map (·.1))/\fs.length<=1000/\H dx=some (.own a):=by
 obtain⟨d,z,ne,ob,aa⟩:=((show gE P w H h a (.ins C dx fs) from aG a _ e));refine aL aa λmA n r q=>?_;exact⟨mA,⟨ob,n,ne⟩,r,q,z,d⟩
end
structure eh(K:W.Frag)(C:Addr):Prop where
 pg:W.plainGet K C Str.empty=true
 hd:W.hasDictIn K C=true
 po:W.plainOver K C=true
 sa:W.findIn K (.ref C) "__setattr__" = some (some (.builtin "object.__setattr__"))
theorem eh.get{K:W.Frag}{C:Addr}(c:eh K C)(f:Str):W.plainGet K C f=true:=c.pg
def bj(K:W.Frag)(C:Addr)(f:Str):Prop:=W.findIn K (.ref C) f=some none
theorem bj.al4{K:W.Frag}{C:Addr}{f:Str}(n:bj K C f):W.takerIn K C f=some none:=by
 unfold W.takerIn;rw[show W.findIn K (.ref C) f=some none from n];rfl
structure Con(K:W.Frag)(C:Addr)(f:Str)(v:V)(u:Value):Prop where
 at_:W.findIn K (.ref C) f=some (some u)
 rel:RelV v u
 get:W.specialIn K u "__get__" = some none
 cp:W.copiedNames.contains f=false
structure Meth(K:W.Frag)(C:Addr)(m:Str)(f:Addr):Prop where
 at_:W.findIn K (.ref C) m=some (some (.ref f))
 fn:W.isFn K (.ref f)=true
 kp:W.keepIn K (.ref f)=true
section
variable{X:Cx}{p_:List (Addr×Obj)}{σ:St}{H:Hp}{s:Shared}{a C dx:Addr}{fs:List (Str×V)}{f:Str}{v:V}{A:Around}{E:Value->Shared->Prop}
theorem Rb{b:Bool}{Q:Value->Shared->Prop}(I:Inv X p_ σ H s)(e:H a=some (.ins C dx fs))(c:eh X.K C)(n:bj X.K C f)(l:fs.lookup f=some v)
  (h:∀u s',Inv X p_ σ H s'->RelV v u->Q u s'):wpAny (model X.prog X.w) A (getAttr (.ref a) f b) Q E s:=by
 obtain⟨mA,O,r,_,_,_⟩:=(D6 I.aG e);obtain⟨u,hu,ru⟩:=lR.some_of (v:=v) (o:=mA f) (by rw[<-l];exact r f);exact get_map I.cH O (c.get f) c.hd n hu (RU ru) (h u _ (I.tok _) ru)
theorem IH{m:Str}{g:Addr}{pl:Sem Bool}{Q:Value×List Value->Shared->Prop}(I:Inv X p_ σ H s)(e:H a=some (.ins C dx fs))(c:eh X.K C)(k:Meth X.K C m g)(l:fs.lookup m=none)
  (h:Q (.ref g,[.ref a]) s):wpAny (model X.prog X.w) A (A0 (.ref a) m pl) Q E s:=by
 obtain⟨mA,O,r,_,_,_⟩:=(D6 I.aG e);have hn:mA m=none:=lR.none_of (by rw[<-l];exact r m);exact agT I.cH O (c.get m) k.at_ k.fn hn h
theorem Q4{y:V}{u:Value}{Q:Unit->Shared->Prop}(I:Inv X p_ σ H s)(e:H a=some (.ins C dx fs))(c:eh X.K C)(n:bj X.K C f)(hl:fs.length<1000)(ry:RelV y u)
  (h:∀s',Inv X p_ σ (upd H a (.ins C dx (aD f y fs))) s'->Q () s'):wpAny (model X.prog X.w) A (setAttr (.ref a) f u) Q E s:=by
 obtain⟨mA,O,r,wi,_,ho⟩:=(D6 I.aG e);have hz:(fs.map (·.1)).length<=aP:=by rw[aX,lu];exact w4
 refine ahX I.cH O c.sa c.po n.al4 c.hd wi hz λh' O' sb=>h _ ?_;have hd:∃o,h'.get? dx=some o:=let ⟨o,_,_,e',_⟩:=O'.ns;⟨o,e'⟩
 refine I.write (x:=a) (e:=dx) (by rw[e];exact nS) (.inr ho) (λb q hb z=>(sb.2 b hb).trans z) hd ?_;refine⟨by rw[aj O.ne];exact ho,?_,O.ne,O'.obj,_,O'.ns,λg=>?_,λg hg=>?_⟩
 ·have:=ko f y fs;lia
 ·show lR ((aD f y fs).lookup g) (if g=f then some u else mA g);rw[eP]
  by_cases q:g=f
  ·rw[if_pos q,if_pos q];exact ry
  ·rw[if_neg q,if_neg q];exact r g
 ·by_cases q:g=f
  ·rw[q];exact(AV f y fs).1
  ·refine(AV f y fs).2 g (wi g λz=>hg ?_);show (if g=f then some u else mA g)=none;rw[if_neg q];exact z
theorem Inv.made(I:Inv X p_ σ H s):Inv X p_ σ (upd (upd H s.heap.objs.size (.own (s.heap.objs.size+1))) (s.heap.objs.size+1) (.ins C s.heap.objs.size []))
  {s with heap:=(s.heap.push W.emptyDict).push (W.instObj C s.heap.objs.size) }:=by
 have e1:(s.heap.push W.emptyDict).get? s.heap.objs.size=some W.emptyDict:=gy s.heap rfl
 have e2:((s.heap.push W.emptyDict).push (W.instObj C s.heap.objs.size)).get? (s.heap.objs.size+1)=some (W.instObj C s.heap.objs.size):=by
  have:=gy (s.heap.push W.emptyDict) (o:=W.instObj C s.heap.objs.size) rfl;rwa[m8]at this
 have e3:(s.heap.push W.emptyDict).Ns s.heap.objs.size (λ_=>none):=⟨W.emptyDict,#[],_,e1,rfl,(λe he=>absurd he (by simp)),λ_=>rfl⟩;have I1:=I.laid (a:=s.heap.objs.size) (o:=.own (s.heap.objs.size+1)) (h':=s.heap.push W.emptyDict) (t':=s.toks) (λb u q=>bo _ q) (aF _) ⟨_,e1⟩;refine I1.laid (a:=s.heap.objs.size+1) (o:=.ins C s.heap.objs.size []) (t':=s.toks) (λb u q=>bo _ q) (qb (m8 _ _)) ?_;have ne:s.heap.objs.size≠s.heap.objs.size+1:=eO (AA _);refine⟨by rw[aj ne,au],bX _,ne,e2,λ_=>none,(Heap.Ns1.of_empty e3).at λo q=>bo _ q,λ_=>nS,λy hy=>absurd rfl hy⟩
theorem UA{prog:Program}{w:World}{env:Env}{e:Expr}{f:Str}{pos:Pos}{s:Shared}{Q:Value->Shared->Prop}(hb:AH e f env (eval e env)=eval e env)
  (h:wpAny (model prog w) A (eval e env) (λo s₁=>wpAny (model prog w) A (getAttr o f true) Q E s₁) E s):wpAny (model prog w) A (eval (.Attribute e f pos) env) Q E s:=
 Attribute_any_ h (by rw[arm_eval_Attribute,hb])
end
def EV(K:W.Frag)(ta:TE)(f:Str):TE:=λσ H Q=>ta σ H λx H1=>∃a C dx fs v,x=.ref a/\H1 a=some (.ins C dx fs)/\eh K C/\bj K C f/\fs.lookup f=some v/\Q v H1
def MS(K:W.Frag)(ta tv:TE)(f:Str):TS:=λD σ H=>tv σ H λy H1=>ta σ H1 λx H2=>∃a C dx fs,x=.ref a/\H2 a=some (.ins C dx fs)/\eh K C/\bj K C f/\fs.length<1000/\
 D.nx σ (upd H2 a (.ins C dx (aD f y fs)))
def WS(X:Cx)(op:Operator)(rd:V->V->Hp->VK->Prop):Prop:=
 ∀(p_:List (Addr×Obj)) (s:Shared) (σ:St) (H:Hp) (x y:V) (u v:Value) (Q:VK),Inv X p_ σ H s->RelV x u->RelV y v->rd x y H Q->wpAny (model X.prog X.w) X.A (inplaceOp op u v) (EP X p_ σ Q) X.xe s
def ah'(K:W.Frag)(ta tv:TE)(rd:V->V->Hp->VK->Prop)(f:Str):TS:=λD σ H=>ta σ H λx H1=>∃a C dx fs v,x=.ref a/\H1 a=some (.ins C dx fs)/\eh K C/\bj K C f/\fs.lookup f=some v/\
 tv σ H1 λy H2=>rd v y H2 λz H3=>∃yB lY,H3 a=some (.ins C yB lY)/\lY.length<1000/\D.nx σ (upd H3 a (.ins C yB (aD f z lY)))
section
variable{X:Cx}{o e value:Expr}{f:Str}{pos pos' xI:Pos}{ta tv:TE}
theorem a6(he:PE X e ta)(hb:AH e f X.env (eval e X.env)=eval e X.env):PE X (.Attribute e f pos) (EV X.K ta f):=by
 intro p_ s σ H Q I h;refine UA hb (aO (he p_ s σ H _ I h) λu s1 zq=>?_);refine cG zq λx H1 I1 rx zq=>?_;obtain⟨a,C,dx,fs,v,zq⟩:=zq;refine md zq λex ea c n l q=>?_;subst ex;obtain rfl:u=cb a:=rx;exact Rb I1 ea c n l λu' s2 I2 ru=>⟨v,H1,I2,ru,q⟩
theorem dr(ha:PE X o ta)(hv:PE X value tv)(hs:AY value (some (.Attribute o f pos')) pos.line X.env=pure false):PS X (.Assign [.Attribute o f pos'] value pos) (MS X.K ta tv f):=by
 intro p_ s σ H D I h;refine PL (aO (hv p_ s σ H _ I h) λu s1 ⟨y,H1,I1,ry,q⟩=>aO (ha p_ s1 σ H1 _ I1 q) λov s2 zq=>?_) hs;refine cG zq λx H2 I2 rx zq=>?_;refine Mh zq λa C dx fs zq=>?_;refine md zq λex ea c n l q2=>?_;subst ex;obtain rfl:ov=cb a:=rx;exact Q4 I2 ea c n l ry λs3 I3=>⟨σ,_,I3,q2⟩
theorem aeG{op:Operator}{rd:V->V->Hp->VK->Prop}(ha:PE X o ta)(hv:PE X value tv)(hop:WS X op rd):PS X (.AugAssign (.Attribute o f xI) op value pos) (ah' X.K ta tv rd f):=by
 intro p_ s σ H D I h;refine wpAny_AugAssign_AttributeAny (aO (ha p_ s σ H _ I h) λov s1 zq=>?_);refine cG zq λx H1 I1 rx zq=>?_;obtain⟨a,C,dx,fs,v,zq⟩:=zq;refine md zq λex ea c n l q=>?_;subst ex;obtain rfl:ov=cb a:=rx;refine Rb I1 ea c n l λu s2 I2 ru=>aO (hv p_ s2 σ H1 _ I2 q) λw3 s3 ⟨y,H2,I3,ry,q3⟩=>aO (hop p_ s3 σ H2 v y u w3 _ I3 ru ry q3) λw4 s4 zq=>?_;refine cG zq λz H3 I4 rz zq=>?_;refine cG zq λyB lY ea' l' q4=>?_;exact Q4 I4 ea' c n l' rz λs5 I5=>⟨σ,_,I5,q4⟩
def an5:V->V->Hp->VK->Prop:=λx y H Q=>∃i j,x=.int i/\y=.int j/\Q (.int (i+j)) H
theorem ak5:WS X .Add an5:=by
 rintro p_ s σ H x y u v Q I rx ry ⟨i,j,rfl,rfl,q⟩;refine oE ((show ∃t,u=nh i t from rx)) λt aa=>?_;subst aa;refine oE ((show ∃t',v=nh j t' from ry)) λt' aa=>?_;subst aa;exact PyProof.Rows.iadd_int ⟨.int (i+j),H,I.tok _,⟨_,rfl⟩,q⟩
end
section
variable{X:Cx}{p_:List (Addr×Obj)}{σ:St}{H:Hp}{s:Shared}{A:Around}{E:Value->Shared->Prop}{Q:Value->Shared->Prop}{c:Value}{b:Bool}
inductive iC (K:W.Frag) (H:Hp):V->Value->Prop where
 | aJ:iC K H .aJ (.type "NoneType")
 | bl (x:Bool):iC K H (.bl x) (.type "bool")
 | int (i:Int):iC K H (.int i) (.type "int")
 | str (x:Str):iC K H (.str x) (.type "str")
 | ud (x:UInt64):iC K H (.ud x) (.type "float")
 | lst {a:Addr} {xs:List V} (e:H a=some (.lst xs)):iC K H (.ref a) (.type "list")
 | nH {a:Addr} {o:Obj} {xs:List V} (e:H a=some (.nH o (.lst xs))):iC K H (.ref a) (.type "list")
 | tup {a:Addr} {xs:List V} (e:H a=some (.tup xs)):iC K H (.ref a) (.type "tuple")
 | dK {a:Addr} {iu:List (Key×V)} (e:H a=some (.dK iu)):iC K H (.ref a) (.type "dict")
 | dT {a:Addr} {iu:List (List Key×V)} (e:H a=some (.dT iu)):iC K H (.ref a) (.type "dict")
 | ins {a C dx:Addr} {fs:List (Str×V)} (e:H a=some (.ins C dx fs)) (cl:eh K C) (ha:W.findIn K (.ref C) "__class__" = some (some (.builtin "object.__class__")))
   (hn:W.specialIn K (.builtin "object.__class__") "__get__" = some (some (.builtin "getset_descriptor.__get__"))) (Gk:W.takesIn K (.builtin "object.__class__")=some true)
   (hm:W.mroIn K C (.type "object")=some true):iC K H (.ref a) (.ref C)
theorem ae3{x:V}{u t:Value}(I:Inv X p_ σ H s)(rx:RelV x u)(ty:iC X.K H x t)(e:W.kitOne X.K t c=some b)(h:∀tk,Q (.bool b) { s with toks:=tk }) :
  wpAny (model X.prog X.w) A (call (.builtin "isinstance") [u,c]) Q E s:=by
 cases ty with
 | aJ=>cases (show u=iI from rx);exact W.kia_one W.kitx_none I.cH nS e (λz=>nomatch z) h
 | bl y=>cases (show u=uV y from rx);exact W.kia_one W.kitx_bool I.cH nS e (λz=>nomatch z) h
 | int i=>obtain⟨t,q⟩:=(show ∃t,u=nh i t from rx);cases q;exact W.kia_one W.kitx_int I.cH nS e (λz=>nomatch z) h
 | str y=>obtain⟨t,q⟩:=(show ∃t,u=A5 y t from rx);cases q;exact W.kia_one W.kitx_str I.cH nS e (λz=>nomatch z) h
 | ud y=>obtain⟨t,q⟩:=(show ∃t,u=QY y t from rx);cases q;exact W.kia_one W.kitx_float I.cH nS e (λz=>nomatch z) h
 | @lst a xs ea=>
  cases (show u=cb a from rx);refine oA ((show gE X.prog X.w H s.heap a (.lst xs) from I.aG a _ ea)) λ_ aa=>?_;refine a9 aa λ_ n _ h1=>?_;exact W.kia_one W.kitx_list I.cH ⟨_,h1,rfl⟩ e (λz=>nomatch z) h
 | @nH a ob xs ea=>
  cases (show u=cb a from rx);refine gH ((show gE X.prog X.w H s.heap a (.nH ob (.lst xs)) from I.aG a _ ea)) λ_ _ aa=>?_;refine a9 aa λ_ n _ h1=>?_;exact W.kia_one W.kitx_list I.cH ⟨_,h1,rfl⟩ e (λz=>nomatch z) h
 | @tup a xs ea=>
  cases (show u=cb a from rx);refine oA ((show gE X.prog X.w H s.heap a (.tup xs) from I.aG a _ ea)) λ_ aa=>?_;refine ah aa λ_ _ p=>?_;refine aL p λo h1 h2 _=>?_;exact W.kia_one W.kitx_tuple I.cH ⟨o,h1,h2⟩ e (λz=>nomatch z) h
 | @dK a iu ea=>
  cases (show u=cb a from rx);refine gH ((show gE X.prog X.w H s.heap a (.dK iu) from I.aG a _ ea)) λ_ _ aa=>?_;refine ah aa λvs _ p=>?_;refine kA p λo es ep h1 h2 _=>?_;exact W.kia_one W.kitx_dict I.cH ⟨o,h1,h2.1⟩ e (λz=>nomatch z) h
 | @dT a iu ea=>
  cases (show u=cb a from rx);refine gH ((show gE X.prog X.w H s.heap a (.dT iu) from I.aG a _ ea)) λ_ _ aa=>?_;refine ah aa λxs _ aa=>?_;refine kA aa λo es ep h1 h2 _=>?_;exact W.kia_one W.kitx_dict I.cH ⟨o,h1,h2.1⟩ e (λz=>nomatch z) h
 | @ins a C dx fs ea cl ha hn Gk hm=>
  cases (show u=cb a from rx);refine ah (D6 I.aG ea) λmA O _=>?_;refine ah O.look λod J _=>?_;exact W.kia_one (W.kitx_own (cl.get _) cl.hd ha hn Gk hm) I.cH J e (λz=>nomatch z) h
end
structure dX(k:Nat)(A:Around):Prop where
 hd:A.handled=none
 dp:A.depth+3*k+5<Dk
 un:A.units+16*k+200<cLine
theorem dX.mono{j k:Nat}{A:Around}(r:dX k A)(h:j<=k):dX j A:=⟨r.hd,by have:=r.dp;lia,by have:=r.un;lia⟩
theorem dX.deeper{k:Nat}{A:Around}(r:dX (k+1) A)(env:Env):dX k (A.deeper env):=
 ⟨r.hd,by have:=r.dp;show A.depth+1+3*k+5<_;lia,by have:=r.un;show A.units+3+16*k+200<_;lia⟩
theorem ad3{A:Around}{C:Addr}{us:List Value}{kw:List (Str×Value)}:(A.under (.builtin "type.__call__" ⟨.ref C::us,kw⟩)).depth=A.depth+1:=by
 first | rfl | simp[QR,Code.weight,Code.isCreation,Code.isGuard,Code.isCaller,Code.frames,Code.isFrame,guardIds]
theorem ad2{A:Around}{C:Addr}{us:List Value}{kw:List (Str×Value)}:(A.under (.builtin "type.__call__" ⟨.ref C::us,kw⟩)).units=A.units+1:=by
 first | rfl | simp[QR,Code.cUnits,Code.frames,Code.isFrame]
theorem dX.make{k:Nat}{A:Around}(r:dX (k+1) A)(C:Addr)(us:List Value)(kw:List (Str×Value)):dX k (A.under (.builtin "type.__call__" ⟨.ref C::us,kw⟩)):=
 ⟨r.hd,by have:=r.dp;rw[ad3];lia,by have:=r.un;rw[ad2];lia⟩
theorem dX.depth{k:Nat}{A:Around}(r:dX k A):A.depth<Dk:=by have:=r.dp;lia
theorem dX.units{k:Nat}{A:Around}(r:dX k A):A.units+64<cLine:=by have:=r.un;lia
abbrev MJ:TA:=λ_ H Q=>Q [] H
abbrev Vx(ta:TE)(tr:TA):TA:=λσ H Q=>ta σ H λx H1=>tr σ H1 λxs H2=>Q (x::xs) H2
section
variable{X:Cx}{e:Expr}{es:List Expr}{te:TE}{t:TA}{pos:Pos}
theorem ag:PA X [] MJ:=λ_ _ _ _ H Q I h=>Calls.spliced_nil ⟨[],H,I,.nil,h⟩
theorem ae(ha:PE X e te)(hr:PA X es t)(hs:cg (e::es) X.env=(false,eval e X.env)::cg es X.env:=by rfl):PA X (e::es) (Vx te t):=by
 intro pos p_ s σ H Q I h;rw[hs];show wpAny _ _ (spliced ((false,eval e X.env)::backTo pos (cg es X.env))) _ _ s;refine Calls.spliced_cons (aO (ha p_ s σ H _ I h) λu s1 ⟨x,H1,I1,r1,q1⟩=>?_);exact aO (hr pos p_ s1 σ H1 _ I1 q1) λus s2 ⟨xs,H2,I2,r2,q2⟩=>⟨x::xs,H2,I2,.cons r1 r2,q2⟩
def anN(t:TA):TE:=λσ H Q=>t σ H λxs H1=>xs.length<=aP/\∀p,H1 p=none->Q (.ref p) (upd H1 p (.tup xs))
def anS(t:TA):TE:=λσ H Q=>t σ H λxs H1=>xs.length<=aP/\∀p,H1 p=none->Q (.ref p) (upd H1 p (.lst xs))
theorem eR{x1}(h:PA X es t):PE X (.Tuple es x1 pos) (anN t):=by
 intro p_ s σ H Q I hq;refine wpAny_Tuple_spliced (aO (h pos p_ s σ H _ I hq) λus s1 ⟨xs,H1,I1,r,z,q⟩=>⟨by rw[<-r.length];exact z,?_⟩);have hf:H1 s1.heap.objs.size=none:=I1.aG.fresh (aF _);refine⟨.ref s1.heap.objs.size,upd H1 s1.heap.objs.size (.tup xs),I1.laid (t':=s1.toks) (λb u e=>bo _ e) (aF _) ?_,rfl,q _ hf⟩;exact⟨z,us,r,⟨_,gy _ rfl,rfl,_,rfl⟩⟩
theorem dW(h:PA X es t):PE X (.List es pos) (anS t):=by
 intro p_ s σ H Q I hq;refine wpAny_List_spliced (aO (h pos p_ s σ H _ I hq) λus s1 ⟨xs,H1,I1,r,z,q⟩=>⟨by rw[<-r.length];exact z,?_⟩);have hf:H1 s1.heap.objs.size=none:=I1.aG.fresh (aF _);refine⟨.ref s1.heap.objs.size,upd H1 s1.heap.objs.size (.lst xs),I1.laid (t':=s1.toks) (λb u e=>bo _ e) (aF _) ?_,rfl,q _ hf⟩;exact⟨z,us,0,r,gy _ rfl⟩
end
abbrev Sp:=List V->Hp->VK->XK->Prop
abbrev nI:=List Env->Hp->Shared->XK->Value->Shared->Prop
structure xG(P:Program)(w:World)(K:W.Frag)(mg:Str->Option Value)(base:Heap)(A:Around)(outer:List Env)(s:Shared)(H:Hp):Prop where
 frames:A.frames=some outer
 mod:Mod K mg base
 bs:∀b o,base.get? b=some o->s.heap.get? b=some o/\H b=none
 lV:base.objs.size<=s.heap.objs.size
 lO:s.heap.FunFrames base outer
 qH:∀b∈gx outer,H b=none
 aG:eX P w H s.heap
 bare:AllBare s.gens
def CE(outer:List Env)(P:Program)(w:World)(H:Hp)(s:Shared)(Q:VK)(u:Value)(s':Shared):Prop:=
 ∃v H',s'.os=s.os/\AllBare s'.gens/\Un (gx outer) [] H H' s.heap s'.heap/\eX P w H' s'.heap/\RelV v u/\Q v H'
def CR(CX:nI)(outer:List Env)(P:Program)(w:World)(H:Hp)(s:Shared)(Q:VK)(E:XK)(r:Result)(s':Shared):Prop:=
 match r with
 | .ok (.ret u)=>CE outer P w H s Q u s'
 | .ok _=>False
 | .error e=>CX outer H s E e s'
structure aw(P:Program)(w:World)(K:W.Frag)(mg:Str->Option Value)(base:Heap)(CX:nI)(k:Nat)(f:Addr)(fd:aV)(ps:List Str)(sp:Sp):Prop where
 len:∀vs H Q E,sp vs H Q E->vs.length=ps.length
 run:∀(A:Around) (outer:List Env) (s:Shared) (H:Hp) (args:Args) (us:List Value) (vs:List V) (Q:VK) (E:XK),dX k A->xG P w K mg base A outer s H->BindsTo s fd args (ps.zip us)->Vals vs us->sp vs H Q E->
  codeAny (model P w) A (.call (.ref f) args) (CR CX outer P w H s Q E) s
theorem xG.make{P:Program}{w:World}{K:W.Frag}{mg:Str->Option Value}{base:Heap}{A:Around}{outer:List Env}{s:Shared}{H:Hp}(e:xG P w K mg base A outer s H)(C:Addr)(us:List Value)(kw:List (Str×Value)) :
  xG P w K mg base (A.under (.builtin "type.__call__" ⟨.ref C::us,kw⟩)) outer s H:=⟨by first | exact e.frames | (simpa[QR,Code.envs,Code.isFrame,pushEnvs]using e.frames),e.mod,e.bs,e.lV,e.lO,e.qH,e.aG,e.bare⟩
section
variable{X:Cx}{p_:List (Addr×Obj)}{σ:St}{H:Hp}{s s':Shared}
theorem Inv.BL(I:Inv X p_ σ H s):xG X.prog X.w X.K X.mg X.base X.A X.stack s H:=
 ⟨I.ok.frames,I.ok.mod,I.bs,cu I.ok.lV I.sz,I.stack,I.DW,I.aG,I.bare⟩
theorem Inv.after{Q:VK}{u:Value}(I:Inv X p_ σ H s)(h:CE X.stack X.prog X.w H s Q u s'):EP X p_ σ Q u s':=by
 refine iV h λv H' os bare un aG r q=>?_;obtain⟨hh,g,d,t,os'⟩:=s';obtain rfl:os'=s.os:=os;exact⟨v,H',I.call (h':=hh) (g':=g) (d':=d) (t':=t) (ch:=[]) un aG bare λb z=>absurd z (by simp),r,q⟩
end
abbrev Vy(sp:Sp)(dvs:List V)(E:XK)(t:TA):TE:=λσ H Q=>t σ H λvs H1=>sp (vs++dvs) H1 Q E
def LX(C:Addr)(m:Str)(sp:Sp)(dvs:List V)(E:XK)(ta:TE)(t:TA):TE:=λσ H Q=>ta σ H λx H1=>∃a dx fs,x=.ref a/\H1 a=some (.ins C dx fs)/\fs.lookup m=none/\
 t σ H1 λvs H2=>sp (x::(vs++dvs)) H2 Q E
def ama(C:Addr)(sp:Sp)(dvs:List V)(E:XK)(t:TA):TE:=λσ H Q=>t σ H λvs H1=>∀x dx,H1 x=none->H1 dx=none->dx≠x->
 sp (.ref x::(vs++dvs)) (upd (upd H1 dx (.own x)) x (.ins C dx [])) (λv H2=>v=.aJ/\Q (.ref x) H2) E
def Binds(K:W.Frag)(fd:aV)(ps:List Str)(ds:List Value):Prop:=
 ∀(s:Shared) (us:List Value),K.In s.heap->(us++ds).length=ps.length->BindsTo s fd ⟨us,[]⟩ (ps.zip (us++ds))
theorem Binds.all{K:W.Frag}{fd:aV}{ps:List Str}(h:∀us:List Value,us.length=ps.length->va fd ⟨us,[]⟩=pure (ps.zip us)):Binds K fd ps []:=λs us _ hl=>by
 rw[sY]at hl ⊢;exact .of_eq (h us hl)
def Passes(CX:nI)(X:Cx)(E:XK):Prop:=∀(p_:List (Addr×Obj)) (σ:St) (H:Hp) (s:Shared) (e:Value) (s':Shared),Inv X p_ σ H s->CX X.stack H s E e s'->X.xe e s'
section
variable{X:Cx}{CX:nI}{k:Nat}{f C:Addr}{fd:aV}{ps:List Str}{sp:Sp}{dvs:List V}{ds:List Value}{E:XK}{x m:Str}{p pos apos:Pos}{e o:Expr}{es:List Expr}{ta:TE}{t:TA}
theorem Bn{p_:List (Addr×Obj)}{σ:St}{H:Hp}{s:Shared}{Q:VK}{us:List Value}{vs:List V}(F:aw X.prog X.w X.K X.mg X.base CX k f fd ps sp)(hr:dX k X.A)(hb:Binds X.K fd ps ds)(hd:Vals dvs ds)(hx:Passes CX X E)
  (I:Inv X p_ σ H s) (r:Vals vs us) (h:sp (vs++dvs) H Q E):wpAny (model X.prog X.w) X.A (call (.ref f) us) (EP X p_ σ Q) X.xe s:=by
 have r2:Vals (vs++dvs) (us++ds):=r.append hd;have hl:(us++ds).length=ps.length:=by rw[<-r2.length];exact F.len _ _ _ _ h
 refine rE (wN (F.run X.A X.stack s H ⟨us,[]⟩ (us++ds) (vs++dvs) Q E hr I.BL (hb s us I.cH hl) r2 h) λr s' hq=>?_);cases r with
 | error e=>exact hx p_ σ H s e s' I hq
 | ok fl=>
  cases fl with
  | ret u=>exact I.after hq
  | next=>exact gA hq
  | brk=>exact gA hq
  | cont=>exact gA hq
theorem dF(F:aw X.prog X.w X.K X.mg X.base CX k f fd ps sp)(hr:dX k X.A)(hg:Gl X x)(hm:X.mg x=some (.ref f))(hk:W.keepIn X.K (.ref f)=true)(hb:Binds X.K fd ps ds)(hd:Vals dvs ds)(hx:Passes CX X E)
  (ha:PA X (e::es) t) (jZ:(x == ("__debug__" : Str))=false:=by decide) (he:cg (e::es) X.env=(false,eval e X.env)::cg es X.env:=by rfl) (dO:(backTo pos (cg es X.env)).any (·.1)=false:=by rfl) :
  PE X (.Call (.Name x p) (e::es) [] pos) (Vy sp dvs E t):=by
 intro p_ s σ H Q I h;refine uI (nU I hg hm ?_ jZ);refine W.callWith_K (h₀:=X.base) I.ok.mod.oq hk (aO (ha pos p_ s σ H _ I h) λus s1 ⟨vs,H1,I1,r,q⟩=>⟨I1.cH,?_⟩) he dO;exact Bn F hr hb hd hx I1 r q
theorem iK{pl:Sem Bool}(he:PE X o ta)(c:eh X.K C)(hm:Meth X.K C m f)(F:aw X.prog X.w X.K X.mg X.base CX k f fd ps sp)(hr:dX k X.A)(hb:Binds X.K fd ps ds)(hd:Vals dvs ds)(hx:Passes CX X E)(ha:PA X (e::es) t)
  (cR:cg (e::es) X.env=(false,eval e X.env)::cg es X.env:=by rfl) (dO:(backTo pos (cg es X.env)).any (·.1)=false:=by rfl)
  (ht:eval (.Call (.Attribute o m apos) (e::es) [] pos) X.env=(do
   let ov <-eval o X.env
   standAt apos.atName
   let (f,first) <-holding [ov] (A0 ov m pl)
   callWith pos f first (backTo pos (cg (e::es) X.env)) (DS pos (Dq [] X.env))):=by rfl) :
  PE X (.Call (.Attribute o m apos) (e::es) [] pos) (LX C m sp dvs E ta t):=by
 intro p_ s σ H Q I h;refine W.methodCall_KW (pl:=pl) (aO (he p_ s σ H _ I h) λu s1 zq=>?_) ht;refine cG zq λx H1 I1 rx zq=>?_;obtain⟨a,dx,fs,ex,ea,l,q⟩:=zq;subst ex;obtain rfl:u=cb a:=rx;refine IH I1 ea c hm l ?_;refine W.callWith_K (first:=[.ref a]) (h₀:=X.base) I.ok.mod.oq hm.kp (aO (ha pos p_ s1 σ H1 _ I1 q) λus s2 ⟨vs,H2,I2,r,q2⟩=>⟨I2.cH,?_⟩) cR dO;exact Bn (us:=.ref a::us) (vs:=.ref a::vs) F hr hb hd hx I2 (.cons rfl r) q2
theorem jr{pl:Sem Bool}(he:PE X o ta)(c:eh X.K C)(hm:Meth X.K C m f)(F:aw X.prog X.w X.K X.mg X.base CX k f fd ps sp)(hr:dX k X.A)(hb:Binds X.K fd ps ds)(hd:Vals dvs ds)(hx:Passes CX X E)
  (ht:eval (.Call (.Attribute o m apos) [] [] pos) X.env=(do
   let ov <-eval o X.env
   standAt apos.atName
   let (f,first) <-holding [ov] (A0 ov m pl)
   callWith pos f first (backTo pos (cg [] X.env)) (DS pos (Dq [] X.env))):=by rfl) :
  PE X (.Call (.Attribute o m apos) [] [] pos) (LX C m sp dvs E ta MJ):=by
 intro p_ s σ H Q I h;refine W.methodCall_KW (pl:=pl) (aO (he p_ s σ H _ I h) λu s1 zq=>?_) ht;refine cG zq λx H1 I1 rx zq=>?_;obtain⟨a,dx,fs,ex,ea,l,q⟩:=zq;subst ex;obtain rfl:u=cb a:=rx;refine IH I1 ea c hm l ?_;exact W.callWith_K0 (first:=[.ref a]) I1.cH hm.kp (Bn (us:=[.ref a]) (vs:=[.ref a]) F hr hb hd hx I1 (.cons rfl .nil) q)
structure Mk(K:W.Frag)(C f:Addr):Prop where
 makes:W.makesIn K C=true
 init:W.findIn K (.ref C) "__init__" = some (some (.ref f))
 fn:W.isFn K (.ref f)=true
 kp:W.keepIn K (.ref C)=true
theorem af5{p_:List (Addr×Obj)}{σ:St}{H:Hp}{s:Shared}{Q:VK}{us:List Value}{vs:List V}(M:Mk X.K C f)(F:aw X.prog X.w X.K X.mg X.base CX k f fd ps sp)(hr:dX (k+1) X.A)(hb:Binds X.K fd ps ds)(hd:Vals dvs ds)
  (hx:Passes CX X E) (I:Inv X p_ σ H s) (r:Vals vs us)
  (h:∀x dx,H x=none->H dx=none->dx≠x->sp (.ref x::(vs++dvs)) (upd (upd H dx (.own x)) x (.ins C dx [])) (λv H2=>v=.aJ/\Q (.ref x) H2) E) :
  wpAny (model X.prog X.w) X.A (call (.ref C) us) (EP X p_ σ Q) X.xe s:=by
 have hq:=h (s.heap.objs.size+1) s.heap.objs.size (I.aG.fresh (jq _)) (I.aG.fresh (aF _)) (eO (AA _));have I2:=Inv.made (C:=C) I;have r2:Vals (V.ref (s.heap.objs.size+1)::(vs++dvs)) (cb (s.heap.objs.size+1)::(us++ds)):=.cons rfl (r.append hd)
 have hl:(cb (s.heap.objs.size+1)::us++ds).length=ps.length:=by
  have e:=r2.length;rw[F.len _ _ _ _ hq]at e;exact e.symm
 refine rE (SS (f:=f) I.cH M.makes M.init (beq_iff_eq.mp M.fn) (wN (F.run _ X.stack _ _ ⟨cb (s.heap.objs.size+1)::us,[]⟩ (cb (s.heap.objs.size+1)::(us++ds)) _ _ E (hr.make C us []) (I2.BL.make C us []) (hb _ (cb (s.heap.objs.size+1)::us) I2.cH hl) r2 hq) λr s' jW=>?_));cases r with
 | error e=>exact hx p_ σ _ _ e s' I2 jW
 | ok fl=>
  cases fl with
  | ret u=>
   refine nW (I2.after jW) λv H' I3 rv ev q3=>?_;subst ev;exact⟨rv,⟨V.ref (s.heap.objs.size+1),H',I3,rfl,q3⟩⟩
  | next=>exact gA jW
  | brk=>exact gA jW
  | cont=>exact gA jW
theorem qg(M:Mk X.K C f)(F:aw X.prog X.w X.K X.mg X.base CX k f fd ps sp)(hr:dX (k+1) X.A)(hg:Gl X x)(hm:X.mg x=some (.ref C))(hb:Binds X.K fd ps ds)(hd:Vals dvs ds)(hx:Passes CX X E)
  (ha:PA X (e::es) t) (jZ:(x == ("__debug__" : Str))=false:=by decide) (he:cg (e::es) X.env=(false,eval e X.env)::cg es X.env:=by rfl) (dO:(backTo pos (cg es X.env)).any (·.1)=false:=by rfl) :
  PE X (.Call (.Name x p) (e::es) [] pos) (ama C sp dvs E t):=by
 intro p_ s σ H Q I h;refine uI (nU I hg hm ?_ jZ);refine W.callWith_K (h₀:=X.base) I.ok.mod.oq M.kp (aO (ha pos p_ s σ H _ I h) λus s1 ⟨vs,H1,I1,r,q⟩=>⟨I1.cH,?_⟩) he dO;exact af5 M F hr hb hd hx I1 r q
end
section
variable{X:Cx}{CX:nI}{k:Nat}{f C:Addr}{fd:aV}{ps ks:List Str}{sp:Sp}{E:XK}{x m:Str}{p pos apos W5:Pos}{e o:Expr}{es:List Expr}{kws:List Keyword}{te ta:TE}{t tk:TA}{nm:Option Str}
structure ap9(K:W.Frag)(fd:aV)(ps ks:List Str)(g:List Value->List Value->List Value)(gV:List V->List V->List V):Prop where
 to:∀(s:Shared) (us ws:List Value),K.In s.heap->(g us ws).length=ps.length->BindsTo s fd ⟨us,ks.zip ws⟩ (ps.zip (g us ws))
 rel:∀{vs:List V} {us:List Value} {zs:List V} {ws:List Value},Vals vs us->Vals zs ws->Vals (gV vs zs) (g us ws)
variable{g:List Value->List Value->List Value}{gV:List V->List V->List V}
end
structure bg(N P:List Str)(sc:Scope):Prop where
 kind:sc.kind=.function
 co:sc.isCoroutine=false
 gen:sc.isGenerator=false
 nd:N.Nodup
 pre:N.take P.length=P
 par:∀x∈P,sc.names.lookup x=some .local\/sc.names.lookup x=some .cell
 akE:∀y∈sc.names,y.2≠.free
theorem bu{N P:List Str}{sc:Scope}(a:sc.kind=.function:=by rfl)(b:sc.isCoroutine=false:=by rfl)(c:sc.isGenerator=false:=by rfl)(d:N.Nodup:=by decide +kernel)(e:N.take P.length=P:=by rfl)(f:∀x∈P,sc.names.lookup x=some .local\/ sc.names.lookup x=some .cell:=by decide +kernel)(g:∀y∈sc.names,y.2≠.free:=by decide +kernel):bg N P sc:=⟨a,b,c,d,e,f,g⟩
theorem Sh{kindOf:Str->Option eQ}{x:Str}:∀{binds:List (Str×Value)} {m:Str->Option Value},(∀v,(x,v)∉binds)->bindL kindOf binds m x=m x
 | [],_,_=>rfl
 | (n,v)::r,m,h=>by
  unfold bindL;rw[Sh λw hw=>h w (dn _ hw)]
  split
  ·have:x≠n:=by rintro rfl;exact h v dE
   simp[this]
  ·rfl
theorem Sj{kindOf:Str->Option eQ}{x:Str}:∀{binds:List (Str×Value)} {m:Str->Option Value},(∀v,(x,v)∉binds)->bindC kindOf binds m x=m x
 | [],_,_=>rfl
 | (n,v)::r,m,h=>by
  unfold bindC;rw[Sj λw hw=>h w (dn _ hw)]
  split
  ·rfl
  ·have:x≠n:=by rintro rfl;exact h v dE
   simp[this]
theorem Si{kindOf:Str->Option eQ}{x:Str}{v:Value}:∀{P:List Str} {vs:List Value} {i:Nat} {m:Str->Option Value},P.Nodup->P[i]?=some x->vs[i]?=some v->kindOf x=some .local->
  bindL kindOf (P.zip vs) m x=some v
 | [],_,_,_,_,h,_,_=>by simp at h
 | _::_,[],_,_,_,_,h,_=>by simp at h
 | p::P,w::vs,0,m,nd,h1,h2,hk=>by
  simp at h1 h2;subst h1;subst h2;show bindL kindOf ((p,w)::P.zip vs) m p=_;unfold bindL;rw[Sh λv hv=>(HM.mp nd).1 (Qp hv).1,if_pos hk];simp
 | p::P,w::vs,i+1,m,nd,h1,h2,hk=>by
  show bindL kindOf ((p,w)::P.zip vs) m x=_;unfold bindL;exact Si (i:=i) (HM.mp nd).2 (by simpa using h1) (by simpa using h2) hk
theorem Sk{kindOf:Str->Option eQ}{x:Str}{v:Value}:∀{P:List Str} {vs:List Value} {i:Nat} {m:Str->Option Value},P.Nodup->P[i]?=some x->vs[i]?=some v->kindOf x≠some .local->
  bindC kindOf (P.zip vs) m x=some v
 | [],_,_,_,_,h,_,_=>by simp at h
 | _::_,[],_,_,_,_,h,_=>by simp at h
 | p::P,w::vs,0,m,nd,h1,h2,hk=>by
  simp at h1 h2;subst h1;subst h2;show bindC kindOf ((p,w)::P.zip vs) m p=_;unfold bindC;rw[Sj λv hv=>(HM.mp nd).1 (Qp hv).1,if_neg hk];simp
 | p::P,w::vs,i+1,m,nd,h1,h2,hk=>by
  show bindC kindOf ((p,w)::P.zip vs) m x=_;unfold bindC;exact Sk (i:=i) (HM.mp nd).2 (by simpa using h1) (by simpa using h2) hk
def start(N:List Str)(vs:List V):St:=vs.map some++dw (N.length-vs.length) none
def jj(CX:nI)(P:Program)(w:World)(K:W.Frag)(mg:Str->Option Value)(base:Heap)(N:List Str)(qual:Str)(scope:Scope)(f:Addr)(cd:Value)(A:Around)(outer:List Env)(s:Shared)(H:Hp)(E:XK):Cx where
 prog:=P
 w:=w
 K:=K
 mg:=mg
 base:=base
 A:=A.deeper (envOfC qual scope s.heap.objs.size f cd)
 N:=N
 s₀:=s
 H₀:=H
 env:=envOfC qual scope s.heap.objs.size f cd
 outer:=outer
 stack:=envOfC qual scope s.heap.objs.size f cd::outer
 ex:=[]
 calm:=true
 fn:=λ_=>true
 pn:=[]
 xe:=λe s'=>wpAny (model P w) (A.deeper (envOfC qual scope s.heap.objs.size f cd)) (leaving (envOfC qual scope s.heap.objs.size f cd) e) (λ_ oC=>CX outer H s E e oC) (λe' oC=>CX outer H s E e' oC) s'
theorem To{sc:Scope}{n:Nat}{x:Str}(h:sc.names.lookup x=some .cell):∃c,(cellsFrom n sc.names []).lookup x=some c:=by
 have q:=W.cellsFrom_some sc.names n [] (.inl h);exact PX.mp q
theorem ae4{CX:nI}{P:Program}{w:World}{K:W.Frag}{mg:Str->Option Value}{base:Heap}{N ps:List Str}{qual:Str}{scope:Scope}{f:Addr}{cd:Value}{A:Around}{outer:List Env}{s s1:Shared}{H:Hp}{E:XK}{us:List Value}{vs:List V}
  (S:bg N ps scope) (hd:A.handled=none) (e0:xG P w K mg base A outer s H) (hl:vs.length=ps.length) (r:Vals vs us)
  (x:InCallC s s.heap.objs.size (bindL (envOfC qual scope s.heap.objs.size f cd).kindOf (ps.zip us) λ_=>none) (cellsFrom (s.heap.objs.size+1) scope.names []) (bindC (envOfC qual scope s.heap.objs.size f cd).kindOf (ps.zip us) λ_=>none) s1) :
  Inv (jj CX P w K mg base N qual scope f cd A outer s H E) [] (start N vs) H s1:=by
 have dO:ps.length<=N.length:=by have:=congrArg List.length S.pre;rw[ff]at this;lia
 refine a9 x.done λh1 tk aa hk=>?_;subst aa;have sM:∀b:Addr,b∉(jj CX P w K mg base N qual scope f cd A outer s H E).ex:=λb z=>absurd (show b∈([]:List Addr) from z) (by simp);refine⟨⟨e0.mod,S.kind,rfl,rfl,aF _,λy z c h1 h2=>?_,λy hy=>?_,λy c _ h=>?_,λ_=>hd,aaH e0.frames,.inr ⟨rfl,rfl⟩,λb z=>absurd z (sM b),e0.bs,e0.lV,λb _ _=>sM b,λb z=>absurd z (sM b),e0.lO,e0.qH⟩,rfl,e0.bare,Un.kept hk,⟨_,x.toInCall.ns,λi y v h1 h2 h3=>?_⟩,λy c h=>⟨_,x.cell y c h⟩,e0.aG.fresh (aF _),λy c h=>?_,λp hp=>absurd (show p∈([]:List (Addr×Obj)) from hp) (by simp),e0.aG.kept hk,?_⟩
 ·exact name_of_addr x.apart (PySem.mem_of_lookup h1) (PySem.mem_of_lookup h2)
 ·have hy:scope.names.lookup y=some .cell\/scope.names.lookup y=some .free:=hy;rcases hy with hy | hy
  ·exact To hy
  ·exact absurd rfl (S.akE _ (PySem.mem_of_lookup hy))
 ·exact cO (x.above y c (PySem.mem_of_lookup h))
 ·have hi:i<vs.length:=by
   unfold start at h2
   by_cases hi:i<vs.length
   ·exact hi
   ·rw[Au (by simpa using hi)]at h2;rw[aav]at h2
    split at h2 <;> cases h2
  have ha:vs[i]?=some v:=by
   unfold start at h2;rw[Aw (by simpa using hi),fw]at h2;cases e:vs[i]? with
   | none=>rw[e]at h2;cases h2
   | some a=>rw[e]at h2;cases h2;rfl
  refine ah (r.get ha) λu hu rv=>?_
  have hp:ps[i]?=some y:=by
   rw[<-S.pre,List.getElem?_take_of_lt wf];exact h1
  have YU:ps.Nodup:=by rw[<-S.pre];exact S.nd.sublist (List.take_sublist _ _)
  refine⟨u,rv,?_⟩;rcases S.par y (cQ hp)with k | k
  ·exact .inl ⟨k,Si YU hp hu k⟩
  ·refine oE (To (n:=s.heap.objs.size+1) k) λc e=>?_;refine .inr ⟨.inl k,c,e,?_⟩;have q:=x.cell y c e;rw[Sk YU hp hu (by show scope.names.lookup y≠_;rw[k];decide)]at q;exact q
 ·exact e0.aG.fresh (cO (x.above y c (PySem.mem_of_lookup h)))
 ·unfold start;show _=N.length;rw[cX,aX,aaA];lia
theorem tT{CX:nI}{P:Program}{w:World}{K:W.Frag}{mg:Str->Option Value}{base:Heap}{k:Nat}{f:Addr}{name qual:Str}{params:Arguments}{body:List Stmt}{scope:Scope}{dV kV doc pm aI ct oc:Value}{an od:Option Addr}
  {iN:Array (Option Value)} {N ps:List Str} {sp:Sp} (lk:K.lookup f=some ⟨oc,od,.func (W.fnOf name qual params body scope dV kV doc pm an aI ct),iN⟩) (gU:W.codeIn K aI qual=true) (S:bg N ps scope)
  (len:∀vs H Q E,sp vs H Q E->vs.length=ps.length)
  (qw:∀(A:Around) (outer:List Env) (s:Shared) (H:Hp) (vs:List V) (Q:VK) (E:XK),dX k (A.deeper (envOfC qual scope s.heap.objs.size f aI))->sp vs H Q E->
   ∃t,eE (jj CX P w K mg base N qual scope f aI A outer s H E) body t/\t { nx:=λ_ H'=>Q .aJ H',rt:=Q } (start N vs) H) :
  aw P w K mg base CX (k+1) f (W.fnOf name qual params body scope dV kV doc pm an aI ct) ps sp:=by
 refine⟨len,λA outer s H args us vs Q E hr e0 hb r nM=>?_⟩;have hl:=len _ _ _ _ nM;have KX:K.In s.heap:=e0.mod.oq.keeps λb o e=>(e0.bs b o e).1;have lim:s.heap.NoLimit:=e0.mod.nolimit.keeps λb o e=>(e0.bs b o e).1
 have anv:∀y∈ps.zip us,scope.names.lookup y.1=some .local\/(scope.names.lookup y.1=some .cell/\((cellsFrom (s.heap.objs.size+1) scope.names []).lookup y.1).isSome=true):=λ⟨n,v⟩ hy=>by
  rcases S.par n (Qp hy).1 with q | q
  ·exact .inl q
  ·exact .inr ⟨q,W.cellsFrom_some _ _ _ (.inl q)⟩
 refine codeAny_call_function hr.depth (KX _ _ lk) rfl S.co S.gen rfl (W.codeRec_of KX gU) (hb _ _ _ _ ?_);refine wpAny_newFunctionEnv_cells S.kind anv λenv he s1 x=>?_;subst he;refine⟨lim.keeps x.toInCall.keep,codeAny_func ?_⟩;refine ah (qw A outer s H vs Q E (hr.deeper _) nM) λt ht hq=>?_;have I:Inv (jj CX P w K mg base N qual scope f aI A outer s H E) [] (start N vs) H s1:=ae4 S hr.hd e0 hl r x;refine iA (ht [] s1 (start N vs) H _ I hq) (λfl s' hs=>?_) λe s' hs=>hs
 have fin:∀{σ':St} {H':Hp} {v:V} {u:Value},Inv (jj CX P w K mg base N qual scope f aI A outer s H E) [] σ' H' s'->RelV v u->Q v H'->CE outer P w H s Q u s':=
  λ{σ' H' v u} J rv q=>⟨v,H',J.os,J.bare,J.base,J.aG,rv,q⟩
 cases fl with
 | ret u=>
  refine kA hs λv σ' H' J rv q=>?_;exact fin J rv q
 | next=>
  refine a9 hs λσ' H' J q=>?_;exact fin (v:=V.aJ) (u:=iI) J rfl q
 | brk=>
  refine a9 hs λ_ _ _ q=>?_;exact gA q
 | cont=>
  refine a9 hs λ_ _ _ q=>?_;exact gA q
section
variable{X:Cx}{x:Str}{p pos:Pos}{e:Expr}{es:List Expr}{t:TA}{id T:String}{r:List V->Hp->VK->Prop}
def NJ(r:List V->Hp->VK->Prop)(t:TA):TE:=λσ H Q=>t σ H λvs H1=>r vs H1 Q
theorem cA(hc:mi X (.builtin id) r)(hg:Gl X x)(hm:X.mg x=none)(hv:wO x=some (.builtin id))(ha:PA X (e::es) t)(hn:x ≠ "__name__":=by decide)(jZ:(x == ("__debug__" : Str))=false:=by decide)
  (he:cg (e::es) X.env=(false,eval e X.env)::cg es X.env:=by rfl) (dO:(backTo pos (cg es X.env)).any (·.1)=false:=by rfl):PE X (.Call (.Name x p) (e::es) [] pos) (NJ r t):=by
 intro p_ s σ H Q I h;refine uI (vp I hg hm hv ?_ hn jZ);exact PyProof.Rows.callWith_builtin1 (aO (ha pos p_ s σ H _ I h) λus s1 ⟨vs,H1,I1,r1,q1⟩=>hc p_ s1 σ H1 vs us Q I1 r1 q1) he dO
theorem jg(hc:mi X (.type T) r)(hg:Gl X x)(hm:X.mg x=none)(hv:wO x=some (.type T))(ha:PA X (e::es) t)(hn:x ≠ "__name__":=by decide)(jZ:(x == ("__debug__" : Str))=false:=by decide)
  (he:cg (e::es) X.env=(false,eval e X.env)::cg es X.env:=by rfl) (dO:(backTo pos (cg es X.env)).any (·.1)=false:=by rfl):PE X (.Call (.Name x p) (e::es) [] pos) (NJ r t):=by
 intro p_ s σ H Q I h;refine uI (vp I hg hm hv ?_ hn jZ);exact C0 (aO (ha pos p_ s σ H _ I h) λus s1 ⟨vs,H1,I1,r1,q1⟩=>hc p_ s1 σ H1 vs us Q I1 r1 q1) he dO
end
end L2
namespace HT
open PySem PyProof.Rows
section
open PySem.SeqAt
open PySem.AutoSeq1 (wpAny_loadPart')
open PySem.MeetsSeq PySem.MeetsSeq2 PySem.MeetsSeq3
end
section
variable{prog:Program}{w:World}{A:Around}{E:Value->Shared->Prop}{s:Shared}
theorem ajU{t b:Addr}{vs ws:List Value}{Q:Value->Shared->Prop}(ht:IsTup s.heap t vs.toArray)(hb:IsTup s.heap b ws.toArray)(hv:vs≠[])
  (h1:ws=[]->Q (.ref t) s) (h2:ws≠[]->Q (.ref s.heap.objs.size) { s with heap:=s.heap.push { cls:=.type "tuple",data:=.seq (vs++ws).toArray } })
  (fu:vs.length+ws.length<=aP):wpAny (model prog w) A (qe .Add (.ref t) (.ref b)) Q E s:=by
 obtain⟨⟨cls,dd,data,sl⟩,ho,hc,n,hd⟩:=id ht;obtain⟨⟨apv,Hd,data2,FU⟩,yq,qV,n2,hd2⟩:=id hb;simp only at hc hd qV hd2;subst hc hd qV hd2;have e:vs.toArray++ws.toArray=(vs++ws).toArray:=by simp
 by_cases hw:ws=[]
 ·exact QK ⟨_,ho,rfl⟩ ⟨_,yq,rfl⟩ Qi Qz PySem.F.slot_tuple_add PySem.F.entry_tuple_add (PySem.F.args_tuple_add_2 _ _)
   (tuple_addW1 t b vs.toArray ws.toArray n n2 dd Hd sl FU (by simpa using hv) (by simp[hw])) ⟨ho,yq,h1 hw⟩
 ·refine QK ⟨_,ho,rfl⟩ ⟨_,yq,rfl⟩ Qi Qz PySem.F.slot_tuple_add PySem.F.entry_tuple_add (PySem.F.args_tuple_add_2 _ _)
   (tuple_addW2 t b vs.toArray ws.toArray n n2 dd Hd sl FU (by simpa using hv) (by simpa using hw) (by rw[dq,dq];exact fu)) ⟨ho,yq,?_⟩
  rw[e];exact h2 hw
def bf(n d:Nat):Option Int->Nat
 | none=>d
 | some v=>if v<0 then (v+(n:Int)).toNat else min v.toNat n
theorem Jz(n d:Nat):bf n d none=d:=rfl
theorem Km(n d k:Nat):bf n d (some (k:Int))=min k n:=by
 show (if (k:Int)<0 then ((k:Int)+(n:Int)).toNat else min (k:Int).toNat n)=min k n;rw[if_neg li,lZ]
theorem akm(n d:Nat)(hd:d<=n)(o:Option Int):bf n d o<=n:=by
 cases o with
 | none=>exact hd
 | some v=>
  show (if v<0 then (v+(n:Int)).toNat else min v.toNat n)<=n
  by_cases hv:v<0
  ·rw[if_pos hv];lia
  ·rw[if_neg hv];exact Nat.min_le_right _ _
theorem Ux(v:Int)(n d:Nat):(if v<0 then max (v+(n:Int)) 0 else min v (n:Int))=((bf n d (some v):Nat):Int):=by
 show (if v<0 then max (v+(n:Int)) 0 else min v (n:Int))=(((if v<0 then (v+(n:Int)).toNat else min v.toNat n):Nat):Int)
 by_cases hv:v<0
 ·simp only[if_pos hv];lia
 ·simp only[if_neg hv];lia
theorem aen(lo hi:Option Int)(n:Nat):PR lo hi 1 (n:Int)=(((bf n 0 lo:Nat):Int),((bf n n hi:Nat):Int)):=by
 have h1:¬((1:Int)<0):=li;unfold PR;simp only[h1,if_false];refine Prod.ext ?_ ?_
 ·cases lo with
  | none=>rfl
  | some v=>exact Ux v n 0
 ·cases hi with
  | none=>rfl
  | some v=>exact Ux v n n
theorem adO(i j:Nat):Hq (i:Int) (j:Int) 1=j-i:=by
 unfold Hq;have h1:(1:Int) > 0:=li;simp only[h1,if_true,Int.ediv_one]
 split <;> lia
theorem Q2{v:Value}{o:Option Int}{Q:Option Int->Shared->Prop}(p:IsPart v o)(h:Q o s):wpAny (model prog w) A (Builtin.Slice.slicePartIndex v) Q E s:=by
 cases p with
 | none=>exact slicePart_none h
 | int i t=>exact slicePart_int h
theorem Qf{sl:Addr}{vl vu:Value}{lo hi:Option Int}{n:Nat}{Q:Int×Int×Nat->Shared->Prop}(hs:s.heap.IsSliceOf sl vl vu .none)(pl:IsPart vl lo)(pu:IsPart vu hi)
  (h:Q (((bf n 0 lo:Nat):Int),1,bf n n hi-bf n 0 lo) s):wpAny (model prog w) A (aak (.ref sl) (pure (n:Int))) Q E s:=by
 obtain⟨os,yn,wA,Cw⟩:=id hs;unfold aak Builtin.Slice.sliceFields;refine aq (aq (iH yn Cw (x:=vl) rfl (aq (iH yn Cw (x:=vu) rfl (aq (iH yn Cw (x:=.none) rfl (aN ?_)))))));refine aq (slicePart_none ?_);show wpAny _ _ (if ((1:Int) == 0)=true then _ else _) _ _ s;rw[if_neg qc];refine aq (Q2 pl (aq (Q2 pu (aq (aN ?_)))));show wpAny _ _ (match PR lo hi 1 (n:Int)with | (lo,hi)=>pure (lo,(1:Int),Hq lo hi 1)) _ _ s;rw[aen lo hi n];show wpAny _ _ (pure (((bf n 0 lo:Nat):Int),(1:Int),Hq ((bf n 0 lo:Nat):Int) ((bf n n hi:Nat):Int) 1)) _ _ s;rw[adO];exact aN h
theorem aga(xs:Array Value)(i k:Nat):((List.range k).filterMap λ(m:Nat)=>xs[((i:Int)+(m:Int)*1).toNat]?).toArray=((xs.toList.drop i).take k).toArray:=by
 have e:(λ(m:Nat)=>xs[((i:Int)+(m:Int)*1).toNat]?)=λm=>xs[i+m]?:=by
  funext m
  have:((i:Int)+(m:Int)*1).toNat=i+m:=li;rw[this]
 rw[e];have:=pick_run xs i k;rw[List.filterMap_map]at this;have e2:((λx=>xs[x]?) ∘ λx=>i+x)=λm=>xs[i+m]?:=rfl;rw[e2]at this;rw[this]
theorem aaU{t sl:Addr}{items:Array Value}{vl vu:Value}{lo hi:Option Int}{Q:Value->Shared->Prop}(ht:IsTup s.heap t items)(hs:s.heap.IsSliceOf sl vl vu .none)(pl:IsPart vl lo)(pu:IsPart vu hi)
  (hw:¬(bf items.size 0 lo=0/\bf items.size items.size hi=items.size))
  (h:Q (.ref s.heap.objs.size) { s with heap:=s.heap.push { cls:=.type "tuple",data:=.seq ((items.toList.drop (bf items.size 0 lo)).take (bf items.size items.size hi-bf items.size 0 lo)).toArray } })
  (fu:items.size<=aP):wpAny (model prog w) A (getItem (.ref t) (.ref sl)) Q E s:=by
 have ES:sizeOk (.seq ((items.toList.drop (bf items.size 0 lo)).take (bf items.size items.size hi-bf items.size 0 lo)).toArray):=by
  show ((items.toList.drop (bf items.size 0 lo)).take (bf items.size items.size hi-bf items.size 0 lo)).toArray.size<=aP;rw[dq,ff,wL,Ay];omega
 have hj:bf items.size items.size hi<=items.size:=akm _ _ (aF _) hi;obtain⟨os,yn,wA,Cw⟩:=id hs;have Pg:s.TypeIs (.ref sl) "slice":=⟨os,yn,wA⟩;unfold getItem
 try with_reducible refine ng ?_
 first | refine aq (aN ?_) | skip
 refine aq (wpAny_sequenceKey ht.typeIs qc ?_);refine aq (yD (name:=dZ "__getitem__") ht.typeIs As (wK As ht.typeIs entry_tuple_getitem ?_ (args_tuple_getitem _ _)));show wpAny _ _ (aaj (.ref t) >>= _) _ _ s;refine aq (tupleItemsOf_ ht ?_);refine aq (QH Pg ?_);rw[if_pos qc];refine aq (Qf hs pl pu ?_)
 have kY:¬((((bf items.size 0 lo:Nat):Int) == 0&&(1:Int) == 1&&(bf items.size items.size hi-bf items.size 0 lo) == items.size)=true):=by
  intro q;rw[fJ,fJ]at q;have q1:((bf items.size 0 lo:Nat):Int)=0:=A3 q.1.1;have q2:bf items.size items.size hi-bf items.size 0 lo=items.size:=A3 q.2;exact hw ⟨li,om⟩
 show wpAny _ _ (if (((bf items.size 0 lo:Nat):Int) == 0&&(1:Int) == 1&&(bf items.size items.size hi-bf items.size 0 lo) == items.size)=true then _ else _) _ _ s;rw[if_neg kY,aga]
 first
  | exact aq (m:=C2 _) (uK (aN ⟨_,rfl,aN h⟩) ES)
  | exact aq (m:=C2 _) (uK (aq (aN (aN ⟨_,rfl,aN h⟩))) ES)
  | exact aq (aq (m:=C2 _) (uK (aN (aN ⟨_,rfl,aN h⟩)) ES))
  | exact aq (aq (m:=C2 _) (uK (aN ⟨_,rfl,aN h⟩) ES))
end
end HT
namespace L2
open PySem PySem.Spec PyProof.Rows
abbrev TO:=St->Hp->(Option Int->Hp->Prop)->Prop
def PO(X:Cx)(e:Option Expr)(t:TO):Prop:=
 ∀(p_:List (Addr×Obj)) (s:Shared) (σ:St) (H:Hp) (Q:Option Int->Hp->Prop),Inv X p_ σ H s->t σ H Q->
  wpAny (model X.prog X.w) X.A (evalPart e X.env) (λu s'=>∃o H',Inv X p_ σ H' s'/\IsPart u o/\Q o H') X.xe s
def Tu:TO:=λ_ H Q=>Q none H
def al7(t:TE):TO:=λσ H Q=>t σ H λx H1=>∃i,x=.int i/\Q (some i) H1
section
variable{X:Cx}{e:Expr}{te:TE}{lo hi:Option Expr}{tl th:TO}{pos p2:Pos}
theorem vg:PO X none Tu:=by
 intro p_ s σ H Q I h;rw[evalPart_none];exact aN ⟨none,H,I,.none,h⟩
theorem vf(h:PE X e te):PO X (some e) (al7 te):=by
 intro p_ s σ H Q I hw;rw[evalPart_some];refine aO (h p_ s σ H _ I hw) λu s1 ⟨x,H1,I1,r1,q1⟩=>?_;refine ah q1 λi aa q=>?_;clear q1;subst aa;refine oE r1 λt aa=>?_;clear r1;subst aa;exact⟨some i,H1,I1,.int i t,q⟩
def BZ(X:Cx)(r:V->Option Int->Option Int->Hp->VK->Prop):Prop:=
 ∀(p_:List (Addr×Obj)) (s:Shared) (σ:St) (H:Hp) (x:V) (v vl vu:Value) (lo hi:Option Int) (sl:Addr) (Q:VK),Inv X p_ σ H s->RelV x v->s.heap.IsSliceOf sl vl vu .none->IsPart vl lo->IsPart vu hi->r x lo hi H Q->
  ∃T id,Dt (.type T) "__getitem__" = pure (some (.builtin id))/\s.TypeIs v T/\wpAny (model X.prog X.w) X.A (getItem v (.ref sl)) (EP X p_ σ Q) X.xe s
def tSl(r:V->Option Int->Option Int->Hp->VK->Prop)(te:TE)(tl th:TO):TE:=λσ H Q=>te σ H λx H1=>tl σ H1 λl H2=>th σ H2 λu H3=>r x l u H3 Q
theorem uZ{r:V->Option Int->Option Int->Hp->VK->Prop}(hr:BZ X r)(he:PE X e te)(hl:PO X lo tl)(hu:PO X hi th):PE X (.Subscript e (.Slice lo hi none p2) pos) (tSl r te tl th):=by
 intro p_ s σ H Q I h;refine Subscript_ (aO (he p_ s σ H _ I h) λv s1 ⟨x,H1,I1,r1,q1⟩=>?_);refine wpAny_Slice (aO (hl p_ s1 σ H1 _ I1 q1) λvl s2 ⟨l,H2,I2,pl,q2⟩=>aO (hu p_ s2 σ H2 _ I2 q2) λvu s3 ⟨u,H3,I3,pu,q3⟩=>?_);rw[evalPart_none];refine aN ?_;have I4:Inv X p_ σ H3 { s3 with heap:=s3.heap.push { cls:=.type "slice",data:=.fields #[vl,vu,.none] } }:=I3.kept (t':=s3.toks) λb ob q=>bo _ q;refine cG (hr p_ { s3 with heap:=s3.heap.push { cls:=.type "slice",data:=.fields #[vl,vu,.none] } } σ H3 x v vl vu l u s3.heap.objs.size Q I4 r1 (Heap.IsSliceOf.new ..) pl pu q3) λT id hT ht hg=>?_;show wpAny (model X.prog X.w) X.A (subscriptTail e (.Slice lo hi none p2) v (.ref s3.heap.objs.size)) (EP X p_ σ Q) X.xe { s3 with heap:=s3.heap.push { cls:=.type "slice",data:=.fields #[vl,vu,.none] } };exact tail_any (ops:=[.ref s3.heap.objs.size,v]) ht hT hg (by with_unfolding_all rfl)
def jT(xs:List V)(lo hi:Option Int):List V:=(xs.drop (HT.bf xs.length 0 lo)).take (HT.bf xs.length xs.length hi-HT.bf xs.length 0 lo)
theorem QX(xs:List V)(lo hi:Option Int):(jT xs lo hi).length<=xs.length:=by
 unfold jT;rw[ff,wL];lia
def WA(K:W.Frag):V->Option Int->Option Int->Hp->VK->Prop:=λx lo hi H Q=>∃a xs,x=.ref a/\aE K H a xs/\
 ¬(HT.bf xs.length 0 lo=0/\HT.bf xs.length xs.length hi=xs.length)/\∀p,H p=none->Q (.ref p) (upd H p (.tup (jT xs lo hi)))
theorem Ed:BZ X (WA X.K):=by
 intro p_ s σ H x v vl vu lo hi sl Q I rx hs pl pu h;refine nW h λa xs aa hx hw q=>?_;clear h;subst aa;cases rx;refine aL (I.tuple hx) λak r ht hz=>?_;have hlen:ak.toArray.size=xs.length:=by rw[dq];exact r.length.symm
 refine⟨"tuple",_,As.lookup,ht.typeIs,?_⟩;refine HT.aaU ht hs pl pu (by rw[hlen];exact hw) ?_ (by rw[hlen];exact hz);rw[hlen];refine⟨.ref s.heap.objs.size,_,I.laid (t':=s.toks) (o:=.tup (jT xs lo hi)) (λb ob q=>bo _ q) (aF _) ?_,rfl,q _ (I.aG.fresh (aF _))⟩;exact⟨cu (QX xs lo hi) hz,_,(r.drop (HT.bf xs.length 0 lo)).take (HT.bf xs.length xs.length hi-HT.bf xs.length 0 lo),DD _ _⟩
def amk(K:W.Frag):R2:=λx y H Q=>∃a b xs ys,x=.ref a/\y=.ref b/\aE K H a xs/\aE K H b ys/\xs≠[]/\xs.length+ys.length<=aP/\
 (ys=[]->Q (.ref a) H)/\(ys≠[]->∀p,H p=none->Q (.ref p) (upd H p (.tup (xs++ys))))
theorem Vals.D4{xs:List V}{us:List Value}(r:Vals xs us):us=[]↔xs=[]:=by
 cases r with
 | nil=>simp
 | cons _ _=>simp
theorem aio:eG X (qe .Add) (amk X.K):=by
 intro p_ s σ H x y v u Q I rx ry h;refine ph h λa b xs ys aa bc=>?_;clear h;subst aa;obtain⟨rfl,ha,hb,hx,hz,q1,q2⟩:=bc;cases rx;cases ry;refine aL (I.tuple ha) λak r1 p1 _=>?_;refine aL (I.tuple hb) λnB r2 p2 _=>?_;refine HT.ajU p1 p2 (λz=>hx (r1.D4.mp z)) (λz=>⟨.ref a,H,I,rfl,q1 (r2.D4.mp z)⟩) (λz=>?_) (by rw[<-r1.length,<-r2.length];exact hz);refine⟨.ref s.heap.objs.size,_,I.laid (t':=s.toks) (o:=.tup (xs++ys)) (λb ob q=>bo _ q) (aF _) ?_,rfl,q2 (λw=>z (r2.D4.mpr w)) _ (I.aG.fresh (aF _))⟩;exact⟨by rw[cX];exact hz,_,r1.append r2,DD _ _⟩
end
def qF(n:Nat)(i:Int):Option Nat:=if 0<=i then (if i<n then some i.toNat else none) else if -(n:Int)<=i then some (i+n).toNat else none
def ir{α:Type}(xs:List α)(i:Int):Option α:=(qF xs.length i).bind λj=>xs[j]?
theorem Uj{n:Nat}{i:Int}{j:Nat}(h:qF n i=some j):Ji i n=some j/\j<n/\-(n:Int)<=i/\i<n:=by
 unfold qF at h
 by_cases h0:0<=i
 ·rw[if_pos h0]at h
  by_cases h1:i<n
  ·rw[if_pos h1]at h;have e:i.toNat=j:=iz h;exact⟨by rw[seqIndex_of h0 h1,e],li,li,h1⟩
  ·rw[if_neg h1]at h;cases h
 ·rw[if_neg h0]at h
  by_cases h1:-(n:Int)<=i
  ·rw[if_pos h1]at h;have e:(i+n).toNat=j:=iz h;exact⟨by rw[QJ li h1,e],li,h1,li⟩
  ·rw[if_neg h1]at h;cases h
theorem UB{α:Type}{xs:List α}{i:Int}{v:α}(h:ir xs i=some v):∃j,Ji i xs.length=some j/\xs[j]?=some v/\j<xs.length/\-(xs.length:Int)<=i/\i<xs.length:=by
 unfold ir at h;cases e:qF xs.length i with
 | none=>rw[e]at h;cases h
 | some j=>
  rw[e]at h;obtain⟨h1,h2,h3,h4⟩:=(Uj e);exact⟨j,h1,h,h2,h3,h4⟩
theorem dG{α:Type}{xs:List α}{j:Nat}{v:α}(h:xs[j]?=some v):ir xs (j:Int)=some v:=by
 have hj:j<xs.length:=(eJ.mp h).1
 have e:qF xs.length (j:Int)=some j:=by
  unfold qF;rw[if_pos li,if_pos li];simp
 unfold ir;rw[e];exact h
theorem Tq{α:Type}(xs:List α)(v:α):ir (xs++[v]) (-1)=some v:=by
 have hl:(xs++[v]).length=xs.length+1:=by simp
 have e:qF (xs++[v]).length (-1)=some xs.length:=by
  unfold qF;rw[hl,if_neg qc,if_pos li]
  congr 1
  lia
 unfold ir;rw[e];show (xs++[v])[xs.length]?=some v;simp
def aj1(b:Expr):Prop:=∀o i,subscripted b false o i=operate [o,i] (getItem o i)
def B1(X:Cx)(r:R2):Prop:=
 ∀(value slice:Expr) (p_:List (Addr×Obj)) (s:Shared) (σ:St) (H:Hp) (x y:V) (v u:Value) (Q:VK),Inv X p_ σ H s->RelV x v->RelV y u->r x y H Q->
  subscripted slice false v u=operate [v,u] (getItem v u)->wpAny (model X.prog X.w) X.A (subscriptTail value slice v u) (EP X p_ σ Q) X.xe s
def MtR(X:Cx)(id:String)(r:V->List V->Hp->VK->Prop):Prop:=
 ∀(p_:List (Addr×Obj)) (s:Shared) (σ:St) (H:Hp) (x:V) (xs:List V) (v:Value) (us:List Value) (Q:VK),Inv X p_ σ H s->RelV x v->Vals xs us->r x xs H Q->
  wpAny (model X.prog X.w) X.A (call (.builtin id) (v::us)) (EP X p_ σ Q) X.xe s
section
variable{X:Cx}{a b:Expr}{ta tb:TE}{pos:Pos}
theorem aT{r:R2}(hr:B1 X r)(ha:PE X a ta)(hb:PE X b tb)(hs:aj1 b:=by intro _ _;rfl):PE X (.Subscript a b pos) (sr r ta tb):=by
 intro p_ s σ H Q I h;exact Subscript_ (Nc ha hb I h λv u s2 x y H2 I2 rx ry q=>hr a b p_ s2 σ H2 x y v u Q I2 rx ry q (hs _ _))
def xA(K:W.Frag):R2:=λx y H Q=>∃p xs i v,x=.ref p/\y=.int i/\av K H p xs/\ir xs i=some v/\Q v H
def zy(K:W.Frag):R2:=λx y H Q=>∃p xs i v,x=.ref p/\y=.int i/\aE K H p xs/\ir xs i=some v/\Q v H
theorem cI:B1 X (xA X.K):=by
 intro value slice p_ s σ H x y v u Q I rx ry h hs;refine ph h λp xs i z aa bc=>?_;clear h;subst aa;obtain⟨aa,hq,he,q⟩:=bc;subst aa;cases rx;refine oE ry λt aa=>?_;clear ry;subst aa;refine aL (I.list hq) λak r pl hz=>?_;obtain⟨j,h1,h2,h3,h4,h5⟩:=(UB he);refine ah (r.get h2) λw ew yb=>?_;have hl:=r.length;have hn:=Bt;have fin:EP X p_ σ Q w s:=⟨z,H,I,yb,q⟩
 by_cases h0:0<=i
 ·have hj:i.toNat=j:=by
   rw[seqIndex_of h0 h5]at h1;exact iz h1
  exact item_listR pl.isList h0 li (by rw[hj];simpa using ew) fin hs
 ·have hj:(i+(ak.toArray.size:Int)).toNat=j:=by
   rw[QJ li h4]at h1;rw[dq,<-hl];exact iz h1
  exact aaw (x:=w) pl.isList.typeIs slot_list_getitem.lookup
   (wpAny_getItem_list_neg (Q:=λr s'=>r=w/\EP X p_ σ Q r s') pl.isList om (by rw[dq] <;> lia) li (by rw[hj];simpa using ew) ⟨rfl,fin⟩) hs
theorem du:B1 X (zy X.K):=by
 intro value slice p_ s σ H x y v u Q I rx ry h hs;refine ph h λp xs i z aa bc=>?_;clear h;subst aa;obtain⟨aa,hq,he,q⟩:=bc;subst aa;cases rx;refine oE ry λt aa=>?_;clear ry;subst aa;refine aL (I.tuple hq) λak r pl hz=>?_;obtain⟨j,h1,h2,h3,h4,h5⟩:=(UB he);refine ah (r.get h2) λw ew yb=>?_;have hl:=r.length;have hn:=Bt;have fin:EP X p_ σ Q w s:=⟨z,H,I,yb,q⟩
 exact aaw (x:=w) pl.typeIs slot_tuple_getitem.lookup
  (getItem_tuple (j:=j) (Q:=λr s'=>r=w/\EP X p_ σ Q r s') pl li li (by rw[dq,<-hl];exact h1) (by simpa using ew) ⟨rfl,fin⟩) hs
theorem ad1(ak:List Value)(n j:Nat)(u:Value):rG (·.setIfInBounds j u) { cls:=.type "list",data:=.seq ak.toArray n }={ cls:=.type "list",data:=.seq (ak.set j u).toArray n }:=by
 simp[rG]
theorem Inv.lst{p_:List (Addr×Obj)}{σ:St}{H:Hp}{s:Shared}{p:Addr}{xs:List V}(I:Inv X p_ σ H s)(h:H p=some (.lst xs)) :
  ∃(ak:List Value) (n:Nat),Vals xs ak/\s.heap.get? p=some { cls:=.type "list",data:=.seq ak.toArray n }/\xs.length<=aP:=by
 refine oA (I.aG p _ h) λz aa=>?_;refine a9 aa λak n r e=>?_;exact⟨ak,n,r,e,z⟩
theorem Inv.akQ{p_:List (Addr×Obj)}{σ:St}{H:Hp}{s:Shared}{p:Addr}{xs ys:List V}{ak mq:List Value}{n n':Nat}{f:Obj->Obj}(I:Inv X p_ σ H s)(h:H p=some (.lst xs))
  (ho:s.heap.get? p=some { cls:=.type "list",data:=.seq ak.toArray n }) (hf:f { cls:=.type "list",data:=.seq ak.toArray n }={ cls:=.type "list",data:=.seq mq.toArray n' }) (r:Vals ys mq) (hz:ys.length<=aP) (t:Nat) :
  Inv X p_ σ (upd H p (.lst ys)) { s with heap:=s.heap.update p f,toks:=t }:=by
 have e:(s.heap.update p f).get? p=some { cls:=.type "list",data:=.seq mq.toArray n' }:=by
  rw[yF f ho (by rw[hf] <;> rfl),hf]
 refine I.write (x:=p) (e:=p) (by rw[h];trivial) (.inl rfl) (λb u hb q=>(qZ _ _ (dU hb)).trans q) ⟨_,e⟩ ?_;exact⟨hz,mq,n',r,e⟩
def ami:V->V->V->Hp->(Hp->Prop)->Prop:=λo i v H Q=>∃p xs k j,o=.ref p/\i=.int k/\H p=some (.lst xs)/\qF xs.length k=some j/\Q (upd H p (.lst (xs.set j v)))
theorem set_list:Nd X ami:=by
 intro p_ s σ H o i v ov iv u Q I ro ri rv h;refine ph h λp xs k j aa bc=>?_;clear h;subst aa;obtain⟨aa,hp,hj,q⟩:=bc;subst aa;cases ro;refine oE ri λt aa=>?_;clear ri;subst aa;refine cG (I.lst hp) λak n r ho hz=>?_;obtain⟨h1,h2,h3,h4⟩:=(Uj hj);have hl:=r.length;have hn:=Bt
 have I':Inv X p_ σ (upd H p (.lst (xs.set j v))) { s with heap:=s.heap.update p (rG (·.setIfInBounds j u)) }:=
  I.akQ hp ho (ad1 ak n j u) (r.set rv j) (by rw[qa];exact hz) s.toks
 by_cases h0:0<=k
 ·have hk:k.toNat=j:=by
   rw[seqIndex_of h0 h4]at h1;exact iz h1
  exact W.ki_setAt ho h0 li (by rw[dq,<-hl];exact h4) (by rw[hk];exact⟨_,I',q⟩)
 ·have hk:(k+(ak.toArray.size:Int)).toNat=j:=by
   rw[QJ li h3]at h1;rw[dq,<-hl];exact iz h1
  exact W.ki_setBack ho om (by rw[dq,<-hl];exact h3) li (by rw[hk];exact⟨_,I',q⟩)
theorem acG(lo hi:Option Int)(n:Nat):(yU lo hi none n).1=((HT.bf n 0 lo:Nat):Int)/\(yU lo hi none n).2.1=((HT.bf n n hi:Nat):Int)/\(yU lo hi none n).2.2=1:=by
 refine⟨?_,?_,rfl⟩
 ·cases lo with
  | none=>simp[yU,HT.bf]
  | some i=>
   simp only[yU,HT.bf,Option.getD_none,show (1:Int) > 0 by decide,if_true]
   by_cases h:i<0
   ·simp only[h,if_true] <;> lia
   ·simp only[h,if_false] <;> lia
 ·cases hi with
  | none=>simp[yU,HT.bf]
  | some i=>
   simp only[yU,HT.bf,Option.getD_none,show (1:Int) > 0 by decide,if_true]
   by_cases h:i<0
   ·simp only[h,if_true] <;> omega
   ·simp only[h,if_false] <;> omega
theorem ab0(ak:List Value)(lo hi:Option Int):slicePick ak.toArray lo hi none=((ak.drop (HT.bf ak.length 0 lo)).take (HT.bf ak.length ak.length hi-HT.bf ak.length 0 lo)).toArray:=by
 refine gH (acG lo hi ak.toArray.size) λh1 h2 h3=>?_;unfold slicePick;rw[h1,h2,h3];simp only[sliceRange_one,pick_run,dq] <;> rfl
def anZ(K:W.Frag):V->Option Int->Option Int->Hp->VK->Prop:=λx lo hi H Q=>∃a xs,x=.ref a/\av K H a xs/\∀p,H p=none->Q (.ref p) (upd H p (.lst (jT xs lo hi)))
theorem ahV:BZ X (anZ X.K):=by
 intro p_ s σ H x v vl vu lo hi sl Q I rx hs pl pu h;refine cG h λa xs aa hx q=>?_;clear h;subst aa;cases rx;refine aL (I.list hx) λak r ht hz=>?_;have hlen:=r.length;refine⟨"list",_,slot_list_getitem.lookup,ht.isList.typeIs,?_⟩;refine wpAny_getItem_list_slice ht.isList hs pl pu .none (by simp) ?_ (by rw[dq] <;> lia);rw[ab0,<-hlen];refine⟨.ref s.heap.objs.size,_,I.laid (t':=s.toks) (o:=.lst (jT xs lo hi)) (λb ob q=>bo _ q) (aF _) ?_,rfl,q _ (I.aG.fresh (aF _))⟩;exact⟨cu (QX xs lo hi) hz,_,0,(r.drop (HT.bf xs.length 0 lo)).take (HT.bf xs.length xs.length hi-HT.bf xs.length 0 lo),gy _ rfl⟩
def tU:V->Bool
 | .aJ=>true
 | .bl _=>true
 | .int _=>true
 | .str _=>true
 | _=>false
def oz:V->V->Bool
 | .aJ,.aJ=>true
 | .bl a,.bl b=>a == b
 | .bl a,.int b=>(if a then 1 else 0) == b
 | .int a,.bl b=>a == (if b then 1 else 0)
 | .int a,.int b=>a == b
 | .str a,.str b=>a == b
 | _,_=>false
theorem alj{A:Around}{s:Shared}{y x:V}{u v:Value}(ry:RelV y u)(rx:RelV x v)(fy:tU y=true)(fx:tU x=true):jJ A s u v (oz y x):=by
 cases y with
 | aJ=>
  cases ry;cases x with
  | aJ=>cases rx;exact jJ.same _
  | bl b=>cases rx;exact jJ.none_bool b
  | int b=>obtain⟨t,rfl⟩:=rx;exact jJ.none_int b t
  | str b=>obtain⟨t,rfl⟩:=rx;exact jJ.none_str b t
  | _=>exact absurd (show false=true from fx) dh
 | bl a=>
  cases ry;cases x with
  | aJ=>cases rx;exact jJ.bool_none a
  | bl b=>cases rx;exact jJ.bool_bool a b
  | int b=>obtain⟨t,rfl⟩:=rx;exact jJ.bool_int a b t
  | str b=>obtain⟨t,rfl⟩:=rx;exact jJ.bool_str a b t
  | _=>exact absurd (show false=true from fx) dh
 | int a=>
  obtain⟨t',rfl⟩:=ry;cases x with
  | aJ=>cases rx;exact jJ.int_none a t'
  | bl b=>cases rx;exact jJ.int_bool a t' b
  | int b=>obtain⟨t,rfl⟩:=rx;exact jJ.int_int a t' b t
  | str b=>obtain⟨t,rfl⟩:=rx;exact aaQ a t' b t
  | _=>exact absurd (show false=true from fx) dh
 | str a=>
  obtain⟨t',rfl⟩:=ry;cases x with
  | aJ=>cases rx;exact jJ.str_none a t'
  | bl b=>cases rx;exact jJ.str_bool a t' b
  | int b=>obtain⟨t,rfl⟩:=rx;exact aaP a t' b t
  | str b=>obtain⟨t,rfl⟩:=rx;exact jJ.str_str a t' b t
  | _=>exact absurd (show false=true from fx) dh
 | _=>exact absurd (show false=true from fy) dh
def uf(x:V)(u:Value):Bool:=match u with
 | .none=>oz .aJ x
 | .bool b=>oz (.bl b) x
 | .int i _=>oz (.int i) x
 | .str z _=>oz (.str z) x
 | _=>false
theorem Vh{x y:V}{u:Value}(r:RelV y u)(f:tU y=true):uf x u=oz y x:=by
 cases y with
 | aJ=>cases r;rfl
 | bl b=>cases r;rfl
 | int i=>obtain⟨t,rfl⟩:=r;rfl
 | str z=>obtain⟨t,rfl⟩:=r;rfl
 | _=>exact absurd (show false=true from f) dh
theorem KG{x:V}:∀{xs:List V} {us:List Value},Vals xs us->xs.all tU=true->us.any (uf x)=xs.any λy=>oz y x
 | _,_,.nil,_=>rfl
 | y::xs,u::us,.cons r t,f=>by
  rw[wM,fJ]at f;rw[yP,yP,Vh r f.1,KG t f.2]
theorem JF{A:Around}{s:Shared}{x:V}{v:Value}(rx:RelV x v)(fx:tU x=true):∀{xs:List V} {us:List Value},Vals xs us->xs.all tU=true->∀u∈us,jJ A s u v (uf x u)
 | _,_,.nil,_=>λu hu=>by cases hu
 | y::xs,u::us,.cons r t,f=>λu' hu=>by
  rw[wM,fJ]at f;rcases bq.mp hu with rfl | hu
  ·rw[Vh r f.1];exact alj r rx f.1 fx
  ·exact JF rx fx t f.2 u' hu
def zP(x:V)(xs:List V):Bool:=xs.any λy=>oz y x
def rIn(K:W.Frag)(neg:Bool):R2:=λx y H Q=>∃p xs,y=.ref p/\(av K H p xs\/aE K H p xs)/\tU x=true/\xs.all tU=true/\Q (.bl (if neg then !zP x xs else zP x xs)) H
theorem QE:eG X (kr .NotIn) (rIn X.K true):=by
 intro p_ s σ H x y v u Q I rx ry h;obtain⟨p,xs,aa,hq,fx,fs,q⟩:=h;subst aa;cases ry;rcases hq with hq | hq
 ·refine aL (I.list hq) λak r pl hz=>?_;refine SeqAt.notIn_listAt (uf x) pl.isList (λw hw=>JF rx fx r fs w (by simpa using hw)) ⟨.bl _,H,I,rfl,?_⟩;rw[show ak.toArray.any (uf x)=ak.any (uf x) by simp,KG r fs];exact q
 ·refine aL (I.tuple hq) λak r pl hz=>?_;refine SeqAt.notIn_tupleAt (uf x) pl (λw hw=>JF rx fx r fs w (by simpa using hw)) ⟨.bl _,H,I,rfl,?_⟩;rw[show ak.toArray.any (uf x)=ak.any (uf x) by simp,KG r fs];exact q
theorem iG:mi X (.builtin "len") (λxs H Q=>∃p ys,xs=[.ref p]/\(av X.K H p ys\/aE X.K H p ys)/\Q (.int ys.length) H):=by
 intro p_ s σ H xs us Q I r h;obtain⟨p,ys,rfl,hq,q⟩:=h;obtain⟨u,rfl,rx⟩:=vals1 r;cases rx;have hn:=Bt;rcases hq with hq | hq
 ·obtain⟨ak,r',pl,hz⟩:=I.list hq;have hlen:=r'.length;exact Calls.call_len_list pl.isList (by simp only[dq] <;> lia) ⟨.int ys.length,H,I.tok _,⟨s.toks+1,by rw[dq,hlen]⟩,q⟩
 ·obtain⟨ak,r',pl,hz⟩:=I.tuple hq;have hlen:=r'.length;exact len_tuple pl (by simp only[dq] <;> omega) ⟨.int ys.length,H,I.tok _,⟨s.toks+1,by rw[dq,hlen]⟩,q⟩
theorem rA:mi X (.type "list") (λxs H Q=>∃p ys,xs=[.ref p]/\(av X.K H p ys\/aE X.K H p ys)/\∀l,H l=none->Q (.ref l) (upd H l (.lst ys))):=by
 intro p_ s σ H xs us Q I r h;obtain⟨p,ys,rfl,hq,q⟩:=h;obtain⟨u,rfl,rx⟩:=vals1 r;cases rx
 have fin:∀(ak:List Value),Vals ys ak->ys.length<=aP->∀(h':Heap) (c':Nat),(∀b o',s.heap.get? b=some o'->h'.get? b=some o')->
   h'.get? s.heap.objs.size=some { cls:=.type "list",dict:=none,data:=.seq ak.toArray c',slots:=#[] }->EP X p_ σ Q (.ref s.heap.objs.size) { s with heap:=h' }:=λak r' hz h' c' kp e=>
  ⟨.ref s.heap.objs.size,_,I.laid (t':=s.toks) kp (aF _) (show gE X.prog X.w _ h' _ (.lst ys) from ⟨hz,ak,c',r',e⟩),rfl,q _ (I.aG.fresh (aF _))⟩
 rcases hq with hq | hq
 ·obtain⟨ak,r',pl,hz⟩:=I.list hq;have hlen:=r'.length;obtain⟨o,ho,hc,n,hd⟩:=pl.isList;exact call_list_seq p (.inl rfl) ho hc hd (λh' c' kp e=>fin ak r' hz h' c' kp e) (by simp only[dq] <;> omega)
 ·obtain⟨ak,r',pl,hz⟩:=I.tuple hq;have hlen:=r'.length;obtain⟨o,ho,hc,n,hd⟩:=pl;exact call_list_seq p (.inr rfl) ho hc hd (λh' c' kp e=>fin ak r' hz h' c' kp e) (by simp only[dq] <;> omega)
theorem AG:mi X (.type "tuple") (λxs H Q=>∃p ys,xs=[.ref p]/\((av X.K H p ys/\∀l,H l=none->Q (.ref l) (upd H l (.tup ys)))\/(aE X.K H p ys/\Q (.ref p) H))):=by
 intro p_ s σ H xs us Q I r h;obtain⟨p,ys,rfl,h⟩:=h;obtain⟨u,rfl,rx⟩:=vals1 r;cases rx;rcases h with ⟨hq,q⟩ | ⟨hq,q⟩
 ·obtain⟨ak,r',pl,hz⟩:=I.list hq;have hlen:=r'.length;refine call_tuple_list pl.isList (λh' kp=>?_) (by simp only[dq] <;> omega);have I1:Inv X p_ σ H { s with heap:=h' }:=I.kept (t':=s.toks) kp
  have I2:Inv X p_ σ (upd H h'.objs.size (.tup ys)) { s with heap:=h'.push { cls:=.type "tuple",data:=.seq ak.toArray } }:=
   I1.laid (t':=s.toks) (λb o e=>bo _ e) (aF _) (show gE X.prog X.w _ _ _ (.tup ys) from ⟨hz,ak,r',DD _ _⟩)
  exact⟨.ref h'.objs.size,_,I2,rfl,q _ (I1.aG.fresh (aF _))⟩
 ·obtain⟨ak,r',pl,hz⟩:=I.tuple hq;exact call_tuple_same pl ⟨.ref p,H,I,rfl,q⟩
def XM(K:W.Frag)(T:String)(x:V)(H:Hp):Prop:=match x with
 | .str _=>T = "str"
 | .int _=>T = "int"
 | .ref p=>(T = "list"/\∃xs,av K H p xs)\/(T = "tuple"/\∃o,K.lookup p=some o/\o.cls=.type "tuple"/\o.dict=none)\/
   (T = "dict"/\((∃iu,H p=some (.dK iu))\/∃iu,H p=some (.dT iu)))\/(T = "set"/\∃S n,H p=some (.set S n))
 | _=>False
theorem aj4{p_:List (Addr×Obj)}{σ:St}{H:Hp}{s:Shared}{T:String}{x:V}{v:Value}(I:Inv X p_ σ H s)(r:RelV x v)(ty:XM X.K T x H) :
  s.TypeIs v T/\∀a,v=.ref a->∃ob,s.heap.get? a=some ob/\ob.dict=none:=by
 cases x with
 | str z=>
  obtain⟨t,rfl⟩:=r;cases (show T = "str" from ty);exact⟨typeIs_str s z t,λ_ e=>nomatch e⟩
 | int i=>
  obtain⟨t,rfl⟩:=r;cases (show T = "int" from ty);exact⟨Du s i t,λ_ e=>nomatch e⟩
 | ref p=>
  cases r;rcases ty with ⟨rfl,xs,hq⟩ | ⟨rfl,o,hk,hc,hd⟩ | ⟨rfl,hk⟩ | ⟨rfl,S,n,hk⟩
  ·refine aL (I.list hq) λak _ pl _=>?_;refine⟨pl.isList.typeIs,λa e=>?_⟩;cases e;refine nW pl λo n e c hd _=>?_;exact⟨o,e,hd⟩
  ·refine⟨⟨o,I.cH p o hk,hc⟩,λa e=>?_⟩;cases e;exact⟨o,I.cH _ o hk,hd⟩
  ·have z:∃o,s.heap.get? p=some o/\o.ExactDict:=by
    rcases hk with ⟨iu,hk⟩ | ⟨iu,hk⟩
    ·refine gH (I.aG p _ hk) λ_ _ aa=>?_;refine ah aa λ_ _ aa=>?_;refine kA aa λo _ _ e ex _=>?_;exact⟨o,e,ex⟩
    ·refine gH (I.aG p _ hk) λ_ _ aa=>?_;refine ah aa λ_ _ aa=>?_;refine kA aa λo _ _ e ex _=>?_;exact⟨o,e,ex⟩
   refine ah z λo e ex=>?_;refine⟨⟨o,e,ex.1⟩,λa e2=>?_⟩;cases e2;exact⟨o,e,ex.2.1⟩
  ·obtain⟨o,_,_,_,e,ex,_⟩:=I.aG p _ hk;refine⟨⟨o,e,ex.1⟩,λa e2=>?_⟩;cases e2;exact⟨o,e,ex.2.1⟩
 | _=>exact gA ty
abbrev tBM(K:W.Frag)(T:String)(r:V->List V->Hp->VK->Prop)(to:TE)(t:TA):TE:=λσ H Q=>to σ H λx H1=>XM K T x H1/\t σ H1 λxs H2=>r x xs H2 Q
variable{o e:Expr}{es:List Expr}{to:TE}{t:TA}{name:Str}{apos mw:Pos}{T id:String}{r:V->List V->Hp->VK->Prop}
theorem mh(pa:PlainAttrs T)(slot:Slot T name id)(jV:typeOf (.builtin id)=pure (.type "method_descriptor"))(hm:MtR X id r)(ho:PE X o to)(ha:PA X (e::es) t)
  (anx:AH o name X.env (eval o X.env)=eval o X.env:=by rfl)
  (Xs:((backTo mw (cg (e::es) X.env)).all (λx=>!x.1)&&(DS mw (Dq [] X.env)).all (λx=>x.1.isSome)
   && decide ((e::es).length+([]:List Keyword).length+(if ([]:List Keyword).isEmpty then 0 else 1)<30))=true:=by rfl)
  (anu:(apos.endLine == mw.line)=true:=by rfl) (hs:cg (e::es) X.env=(false,eval e X.env)::cg es X.env:=by rfl) (alS:(backTo mw (cg es X.env)).any (·.1)=false:=by rfl) :
  PE X (.Call (.Attribute o name apos) (e::es) [] mw) (tBM X.K T r to t):=by
 intro p_ s σ H Q I h;refine wpAny_Call_method_late anx Xs anu rfl (aO (ho p_ s σ H _ I h) λv s1 ⟨x,H1,I1,r1,ty,q1⟩=>?_);refine oA (aj4 I1 r1 ty) λh1 h2=>?_;refine⟨T,id,pa,slot,jV,h1,h2,?_⟩;have hA:=ha mw p_ s1 σ H1 _ I1 q1;rw[hs]at hA ⊢;refine Calls.callWith_builtin (by show (false||(backTo mw (cg es X.env)).any (·.1))=false;rw[alS] <;> rfl) (Calls.evalArgs_plain ?_);exact aO hA λus s2 ⟨vs,H2,I2,r2,q2⟩=>hm p_ s2 σ H2 x vs v us Q I2 r1 r2 q2
end
def NV(X:Cx)(id:String)(r:V->List V->Hp->VK->Prop):Prop:=
 ∀(p_:List (Addr×Obj)) (s:Shared) (σ:St) (H:Hp) (x:V) (xs:List V) (v:Value) (us:List Value) (Q:VK),Inv X p_ σ H s->RelV x v->Vals xs us->r x xs H Q->
  wpAny (model X.prog X.w) X.A (call (.builtin id) (v::us)) (EP X p_ σ Q) X.xe s
theorem Vals.one:∀{x:V} {us:List Value},Vals [x] us->∃u,us=[u]/\RelV x u
 | _,_,.cons r .nil=>⟨_,rfl,r⟩
theorem Vals.eraseIdx:∀{xs:List V} {us:List Value} (i:Nat),Vals xs us->Vals (xs.eraseIdx i) (us.eraseIdx i)
 | _,_,_,.nil=>.nil
 | _,_,0,.cons _ t=>t
 | _,_,i+1,.cons r t=>.cons r (Vals.eraseIdx i t)
theorem Vals.rep{xs:List V}{us:List Value}(h:Vals xs us):∀k:Nat,Vals (dw k xs).flatten (dw k us).flatten
 | 0=>.nil
 | k+1=>by
  rw[C8,C8,HF,HF];exact Vals.append h (Vals.rep h k)
theorem RQ{α:Type}:∀(l:List α) (i:Nat),(l.eraseIdx i).length<=l.length
 | [],_=>aF _
 | _::_,0=>jq _
 | _::r,i+1=>Dg (RQ r i)
theorem foldl_rep(ak:List Value):∀(k:Nat) (acc:List Value),IQ (λx1 x2=>x1++x2) acc.toArray (dw k ak.toArray)=(acc++(dw k ak).flatten).toArray
 | 0,acc=>by simp
 | k+1,acc=>by
  have e:acc.toArray++ak.toArray=(acc++ak).toArray:=by simp
  have e2:(acc++ak)++(dw k ak).flatten=acc++(dw (k+1) ak).flatten:=by
   rw[C8,HF,Qe]
  rw[<-e2,<-foldl_rep ak k (acc++ak),<-e,C8,List.foldl_cons]
section
variable{X:Cx}{p_:List (Addr×Obj)}{σ:St}{H:Hp}{s:Shared}{l b:Addr}{xs ys zs:List V}
theorem Inv.MU{ak mq:List Value}{n:Nat}{f:Array Value->Array Value}{t':Nat}(I:Inv X p_ σ H s)(hH:H l=some (.lst xs))
  (e:s.heap.get? l=some { cls:=.type "list",data:=.seq ak.toArray n }) (hf:f ak.toArray=mq.toArray) (hv:Vals ys mq) (hz:ys.length<=aP) :
  Inv X p_ σ (upd H l (.lst ys)) { s with heap:=s.heap.update l (rG f),toks:=t' }:=by
 have q:=PySem.IsL.update e f;rw[hf]at q;refine I.write (x:=l) (e:=l) (by rw[hH];exact trivial) (.inl rfl) (λb' u hb hu=>(qZ s.heap (rG f) (dU hb)).trans hu) ⟨_,q⟩ ?_;exact⟨hz,mq,_,hv,q⟩
theorem Inv.WH{ak:List Value}{t':Nat}(I:Inv X p_ σ H s)(hv:Vals ys ak)(hz:ys.length<=aP) :
  Inv X p_ σ (upd H s.heap.objs.size (.lst ys)) { s with heap:=s.heap.push { cls:=.type "list",data:=.seq ak.toArray },toks:=t' }:=
 I.laid (λ_ _ q=>bo _ q) (aF _) ⟨hz,ak,0,hv,gy _ rfl⟩
theorem Inv.fresh(I:Inv X p_ σ H s):H s.heap.objs.size=none:=I.aG.fresh (aF _)
theorem Inv.qz(I:Inv X p_ σ H s)(hH:H l=some (.lst xs)):xs.length<=aP/\∃(ak:List Value) (n:Nat),Vals xs ak/\xs.length=ak.length/\s.heap.get? l=some { cls:=.type "list",data:=.seq ak.toArray n }:=by
 refine oA (I.aG l _ hH) λz aa=>?_;refine a9 aa λak n r e=>?_;exact⟨z,ak,n,r,r.length,e⟩
theorem SO{n:Nat}(h:n<=aP):Hs n=false:=by
 unfold Hs;exact decide_eq_false li
end
section
variable{X:Cx}
def aie:V->List V->Hp->VK->Prop:=λx vs H Q=>∃l xs y,x=.ref l/\vs=[y]/\H l=some (.lst xs)/\xs.length<aP/\Q .aJ (upd H l (.lst (xs++[y])))
theorem oZ:NV X "list.append" aie:=by
 intro p_ s σ H x vs v us Q I rx rv h;obtain⟨l,xs,y,aa,bc,hH,hz,q⟩:=h;subst aa;subst bc;cases rx;refine ah rv.one λu aa ru=>?_;subst aa;refine oA (I.qz hH) λz aa=>?_;refine cG aa λak n r hl e=>?_;refine wW F.slot_list_append ⟨_,e,rfl⟩ F.entry_list_append (F.args_list_append_2 _ _) (PySem.list_append l ak.toArray n u (by rw[dq];exact w9)) ⟨e,?_⟩;refine⟨.aJ,_,I.MU (mq:=ak++[u]) hH e (by simp) (r.append (.cons ru .nil)) ?_,rfl,q⟩;rw[cX,C4];exact wa
def aid:V->List V->Hp->VK->Prop:=λx vs H Q=>∃l b xs zs,x=.ref l/\vs=[.ref b]/\H l=some (.lst xs)/\H b=some (.lst zs)/\xs.length+zs.length<=aP/\Q .aJ (upd H l (.lst (xs++zs)))
theorem RM:NV X "list.extend" aid:=by
 intro p_ s σ H x vs v us Q I rx rv h;refine ph h λl b xs zs aa bc=>?_;clear h;subst aa;obtain⟨aa,hH,hB,hz,q⟩:=bc;subst aa;cases rx;refine ah rv.one λu aa ru=>?_;subst aa;cases ru;refine oA (I.qz hH) λz aa=>?_;refine cG aa λak n r hl e=>?_;refine oA (I.qz hB) λz2 aa=>?_;refine cG aa λnB n2 r2 mV e2=>?_;have fu:ak.toArray.size+nB.toArray.size<=aP:=by rw[dq,dq];lia
 have ME:¬(!ak.toArray.isEmpty&&Hs (ak.toArray.size+nB.toArray.size))=true:=by
  rw[SO fu,HW];exact dh
 refine wW F.slot_list_extend ⟨_,e,rfl⟩ F.entry_list_extend (F.args_list_extend_2 _ _)
  (AutoSeq1.list_extend_list_list_0 l ak.toArray n b nB.toArray n2 ME (by rw[dq];exact w9) w4) ⟨e,e2,?_⟩
 refine⟨.aJ,_,I.MU (mq:=ak++nB) hH e (by simp) (r.append r2) ?_,rfl,q⟩;rw[cX];exact w0
def akq:V->List V->Hp->VK->Prop:=λx vs H Q=>∃l xs i k y,x=.ref l/\vs=[.int i]/\H l=some (.lst xs)/\-(2^63)<=i/\i<2^63/\Ji i xs.length=some k/\xs[k]?=some y/\Q y (upd H l (.lst (xs.eraseIdx k)))
theorem agD:NV X "list.pop" akq:=by
 intro p_ s σ H x vs v us Q I rx rv h;obtain⟨l,xs,i,k,y,aa,bc,hH,h1,h2,hk,hy,q⟩:=h;subst aa;subst bc;cases rx;refine ah rv.one λu aa ru=>?_;subst aa;refine oE ru λt aa=>?_;clear ru;subst aa;refine oA (I.qz hH) λz aa=>?_;refine cG aa λak n r hl e=>?_;refine ah (r.get hy) λw hw yb=>?_
 refine wW F.slot_list_pop ⟨_,e,rfl⟩ F.entry_list_pop (F.args_list_pop_2 _ _)
  (MeetsSeq.list_pop_at l ak.toArray n i t k w (fitsIndex_both h1 h2) (by rw[dq,<-hl];exact hk) (by rw[<-aaC];exact hw) (by rw[dq];exact w9)) ⟨e,?_⟩
 refine⟨y,_,I.MU (mq:=ak.eraseIdx k) hH e ?_ (r.eraseIdx k) ?_,yb,q⟩
 ·show ak.toArray.eraseIdxIfInBounds k=(ak.eraseIdx k).toArray;rw[List.eraseIdxIfInBounds_toArray]
 ·have:=RQ xs k;exact wj
def an2:R2:=λx y H Q=>∃l b xs zs,x=.ref l/\y=.ref b/\H l=some (.lst xs)/\H b=some (.lst zs)/\xs.length+zs.length<=aP/\∀p,H p=none->Q (.ref p) (upd H p (.lst (xs++zs)))
theorem akv:eG X (qe .Add) an2:=by
 intro p_ s σ H x y v u Q I rx ry h;refine ph h λl b xs zs aa bc=>?_;clear h;subst aa;obtain⟨aa,hH,hB,hz,q⟩:=bc;subst aa;cases rx;cases ry;refine oA (I.qz hH) λz aa=>?_;refine cG aa λak n r hl e=>?_;refine oA (I.qz hB) λz2 aa=>?_;refine cG aa λnB n2 r2 mV e2=>?_;refine PySem.P.add_list e e2 ?_ (by rw[dq,dq];omega);have ea:ak.toArray++nB.toArray=(ak++nB).toArray:=by simp
 rw[ea];exact⟨.ref _,_,I.WH (t':=s.toks) (r.append r2) (by rw[cX];exact w0),rfl,q _ I.fresh⟩
def an0:R2:=λx y H Q=>∃l k xs,x=.ref l/\y=.int k/\H l=some (.lst xs)/\-(2^63)<=k/\k<2^63/\xs.length*k.toNat<=aP/\
 ∀p,H p=none->Q (.ref p) (upd H p (.lst (dw k.toNat xs).flatten))
theorem len_rep{α:Type}(xs:List α)(k:Nat):(dw k xs).flatten.length=k*xs.length:=by
 induction k with
 | zero=>simp
 | succ k ih=>rw[C8,HF,cX,ih,QO,Nat.add_comm]
theorem U1:eG X (qe .Mult) an0:=by
 intro p_ s σ H x y v u Q I rx ry h;obtain⟨l,k,xs,aa,bc,hH,h1,h2,hz,q⟩:=h;subst aa;subst bc;cases rx;refine oE ry λt aa=>?_;clear ry;subst aa;refine oA (I.qz hH) λz aa=>?_;refine cG aa λak n r hl e=>?_;have hlen:ak.toArray.size*k.toNat<=aP:=by rw[dq,<-hl];exact hz
 have apa:¬ak.toArray.size*k.toNat > (2^63-1)/8:=by
  have:(aP:Nat)<=(2^63-1)/8:=qc;lia
 have ao6:¬(!Builtin.List.listFitsIndex k)=true:=by
  rw[fitsIndex_both h1 h2];exact dh
 have ME:¬Hs (ak.toArray.size*k.toNat)=true:=by
  rw[SO hlen];exact dh
 have aoX:IQ (λx1 x2=>x1++x2) #[] (dw (if ak.toArray.isEmpty=true then 0 else k.toNat) ak.toArray)=(dw k.toNat ak).flatten.toArray:=by
  have f0:∀m:Nat,IQ (λx1 x2=>x1++x2) #[] (dw m ak.toArray)=(dw m ak).flatten.toArray:=λm=>by
   have:=foldl_rep ak m [];rw[uQ]at this;exact this
  rw[f0];cases ak with
  | nil=>simp
  | cons a r'=>rw[if_neg (by simp)]
 refine aan (T:="list") (U:="int") qc ⟨_,e,rfl⟩ (λs'=>Du s' k t) noFill_list_mul F.fills_int_mul HQ repeat_list F.slot_int_index.lookup
  (wW HQ (Du s k t) F.entry_int_rmul (F.args_int_rmul_2 _ _) (int___rmul___int_list k t l ak.toArray n) ⟨e,rfl,⟨_,e,rfl⟩,wW F.slot_list_mul ⟨_,e,rfl⟩ F.entry_list_mul (F.args_list_mul_2 _ _) (AutoListH.list___mul___list_int_3 l ak.toArray n k t ao6 apa ME) ⟨e,?_⟩⟩)
 rw[aoX];exact⟨.ref _,_,I.WH (t':=s.toks) (r.rep k.toNat) (by rw[len_rep,QQ];exact hz),rfl,q _ I.fresh⟩
end
section
variable{prog:Program}{w:World}{A:Around}{E:Value->Shared->Prop}{s:Shared}
end
section
variable{X:Cx}
end
end L2
namespace Att
open PySem PySem.W PySem.Calls PyProof.Rows
theorem abj{P:Params}{h:Heap}:∀(ns:List Int) (vs:List Value),WellAll P h vs (ns.map WData.int)->IntsAre vs ns:=by
 intro ns
 induction ns with
 | nil=>
  intro vs w;rw[List.map_nil]at w;cases w;exact .nil
 | cons n ns ih=>
  intro vs w;rw[iF]at w;cases w with
  | cons a b=>
   cases a;exact .cons _ _ (ih _ b)
theorem aeB{l:OpenLaw}{n:Nat}(hn:l.most=some n){P:Params}{h:Heap}{args:List WData}{vals:List Value}
  (Fh:l.row.toRowW.claim.pre args=true) (sP:WellAll P h vals args) :
  ∃a vs ns,vals=[cb a]/\args=[WData.list (ns.map WData.int)]/\h.get? a=some { cls:=.type "list",data:=.seq vs.toArray }/\IntsAre vs ns/\ns.length<=n:=by
 have hsh:WShape.hasAll [] args [.list .int]=true:=(pre_splitW Fh).1;have hc:l.pre.holds [] { args:=args }=true:=(pre_splitW Fh).2;obtain⟨d,r,rfl,h1,h2⟩:=hasAllW_cons hsh;obtain rfl:=hasAllW_nil h2;obtain⟨xs,rfl,h3⟩:=hasW_list h1;obtain⟨ns,rfl⟩:=items_int h3
 have hlen:ns.length<=n:=by
  unfold OpenLaw.pre at hc
  have h4:(WTm.not (.lt (.lit (.int (n:Int))) (.len (.arg 0)))).holds [] { args:=[.list (ns.map .int)] }=true:=by
   have h4:=(holds_andW hc).1;rw[hn]at h4;exact h4
  have h5:=condW_of h4 (w_not (w_lt w_lit (w_len_list (w_arg rfl))));rw[aX]at h5;refine Nat.le_of_not_lt λq=>?_;have q':(n:Int)<((ns.length:Nat):Int):=om
  first
   | (rw[decide_eq_true q']at h5;exact absurd h5 qc)
   | (simp at h5;omega)
 cases sP with
 | cons w1 w2=>
  cases w2;cases w1 with
  | list ho Fl=>exact⟨_,_,ns,rfl,rfl,ho,abj ns _ Fl,hlen⟩
theorem aeH(l:OpenLaw)(args:List WData):l.row.toRowW.claim.post args (.bool true) args=true:=
 postW_of (r:=l.row.toRowW) (X:=(true == true))
  (show WShape.has [] (.bool true) .bool=true by first | rfl | decide | simp[WShape.has,WShape.arms,WShape.armsAll])
  (show (WTm.eq .res (.lit (.bool true))).value [] { args:=args,res:=some (.bool true),after:=args }=some (.bool (true == true)) from w_eq_bool (w_res rfl) w_lit) rfl
theorem adA{l:OpenLaw}{n:Nat}{q:Program}{loose:List Str}{XP:(Str->Option Value)->Heap->Prop}{YP:World->Heap->Prop}{d:DefRec}
  (hn:l.most=some n) (Pc:d.params.defaults=[])
  (call:∀(w:World) (s₀ s₁:Shared) (mg mb:Str->Option Value) (fa:Addr) (o:Obj) (pm cd doc:Value) (a:Addr) (vs:List Value) (ns:List Int),Ground q loose [] XP w s₀ mg mb s₁.heap->YP w s₁.heap->
   s₁.heap.get? fa=some o->o.data=.func (docDef d.name d.params d.body d.scope pm cd doc)->s₁.heap.CodeRec cd d.name->mg d.name=some (.ref fa)->
   s₁.heap.get? a=some { cls:=.type "list",data:=.seq vs.toArray }->IntsAre vs ns->ns.length<=n->s₁.gens=#[]->
   codeAny (model l.prog w) callerA (.call (.ref fa) ⟨[.ref a],[]⟩) (λr s'=>r=.ok (.ret (.bool true))/\OldK s₁.heap s'.heap/\s'.os=s₁.os/\AllBare s'.gens) s₁) :
  WalkO q loose XP YP l.row.toRowW d [] (λf vs=>PySem.call f vs):=by
 intro w s₀ s₁ mg mb G Y fa o pm cd doc dV kV ho hd gU hD Af hg args vals as Fh aqw hrd sP ux;obtain rfl:dV=.none:=Dflts.none hD Pc;obtain rfl:kV=.none:=Dflts.noKw hD;obtain⟨a,vs,ns,rfl,rfl,Nq,hints,hlen⟩:=aeB hn Fh sP;refine enter_call (wN (call w s₀ s₁ mg mb fa o pm cd doc a vs ns G Y ho (fd_plain hd) gU Af Nq hints hlen hg) λr s' hq=>?_);obtain⟨rfl,h2,h3,h4⟩:=hq;exact⟨.inl ⟨.bool true,.bool true,[],rfl,λ_=>rfl,.bool true,aeH l _,λ_=>⟨aa6,λ_ hm=>(nomatch hm)⟩⟩,h2,h3,h4⟩
section
variable{prog:Program}{w:World}{A:Around}{E:Value->Shared->Prop}{s:Shared}{K:Frag}
end
end Att
namespace L2
open PySem PySem.Spec PyProof.Rows
theorem Rx:∀{vs:List Value} {ns:List Int},IntsAre vs ns->Vals (ns.map V.int) vs
 | _,_,.nil=>.nil
 | _,_,.cons n t h=>.cons ⟨t,rfl⟩ (Rx h)
abbrev az:nI:=λ_ _ _ _ _ _=>False
abbrev E0:XK:=λ_ _ _=>False
theorem aS{X:Cx}:Passes az X E0:=λ_ _ _ _ _ _ _ h=>h.elim
structure aW(K:W.Frag)(x qual:Str)(st:Stmt)(f:Addr)(fd:aV):Prop where
 ex:∃(oc:Value) (od:Option Addr) (kV doc pm:Value) (an:Option Addr) (aI ct:Value) (iN:Array (Option Value)),fd=W.fnOf x qual (ma st) (hX st) (aQ st) .none kV doc pm an aI ct/\K.lookup f=some ⟨oc,od,.func fd,iN⟩/\W.codeIn K aI qual=true
 kp:W.keepIn K (.ref f)=true
section
variable{P:Program}{w:World}{K:W.Frag}{mg:Str->Option Value}{base:Heap}
theorem aW.ok{x qual:Str}{st:Stmt}{f:Addr}{fd:aV}{N ps:List Str}{k:Nat}{sp:Sp}(F:aW K x qual st f fd)(S:bg N ps (aQ st))(len:∀vs H Q E,sp vs H Q E->vs.length=ps.length)
  (qw:∀(aI:Value) (A:Around) (outer:List Env) (s:Shared) (H:Hp) (vs:List V) (Q:VK) (E:XK),dX k (A.deeper (envOfC qual (aQ st) s.heap.objs.size f aI))->sp vs H Q E->
   ∃t,eE (jj az P w K mg base N qual (aQ st) f aI A outer s H E).qE (hX st) t/\t { nx:=λ_ H'=>Q .aJ H',rt:=Q } (start N vs) H):aw P w K mg base az (k+1) f fd ps sp:=by
 obtain⟨oc,od,kV,doc,pm,an,aI,ct,iN,aa,lk,gU⟩:=F.ex;subst aa;refine tT lk gU S len λA outer s H vs Q E hr nM=>?_;refine ah (qw aI A outer s H vs Q E hr nM) λt h q=>?_;exact⟨t,h.qE,q⟩
theorem aW.binds{x qual:Str}{st:Stmt}{f:Addr}{fd:aV}{ps:List Str}(F:aW K x qual st f fd)
  (h:∀(kV doc pm:Value) (an:Option Addr) (aI ct:Value) (us:List Value),us.length=ps.length->va (W.fnOf x qual (ma st) (hX st) (aQ st) .none kV doc pm an aI ct) ⟨us,[]⟩=pure (ps.zip us)):Binds K fd ps []:=by
 obtain⟨oc,od,kV,doc,pm,an,aI,ct,iN,aa,lk,gU⟩:=F.ex;subst aa;exact .all (h kV doc pm an aI ct)
theorem Vc{x qual:Str}{st:Stmt}{f:Addr}{oc:Value}{od an:Option Addr}{iN:Array (Option Value)}{kV doc pm aI ct:Value}(l:K.lookup f=some ⟨oc,od,.func (W.fnOf x qual (ma st) (hX st) (aQ st) .none kV doc pm an aI ct),iN⟩)
  (c:W.codeIn K aI qual=true) (k:W.keepIn K (.ref f)=true):aW K x qual st f (W.fnOf x qual (ma st) (hX st) (aQ st) .none kV doc pm an aI ct):=⟨⟨oc,od,kV,doc,pm,an,aI,ct,iN,rfl,l,c⟩,k⟩
end
theorem c9{n:Nat}(h:n<=1000):n<aP:=rh h qc
section
variable{X:Cx}
theorem pv(i:Nat){x:Str}{pos:Pos}(hN:X.N[i]?=some x:=by rfl)(hv:FE X.env.scope x:=by first | exact aR rfl | exact Or.inr (aR rfl) | exact Or.inr (Or.inr rfl))(hd:(x == ("__debug__" : Str))=false:=by decide)
  (gU:(x == ("__classdict__" : Str))=false:=by decide):PE X (.Name x pos) (mj i):=Ll hN hv hd gU
end
theorem fk{A B:Prop}(h:B):if false=true then A else B:=by
 rw[if_neg dh];exact h
theorem iM{A B:Prop}(h:A):if true=true then A else B:=by
 rw[if_pos rfl];exact h
def af(H H':Hp):Prop:=∀b o,H b=some o->H' b=some o
theorem af.refl(H:Hp):af H H:=λ_ _ h=>h
theorem af.trans{H H1 H2:Hp}(a:af H H1)(b:af H1 H2):af H H2:=λc o h=>b c o (a c o h)
theorem af.free{H H':Hp}(e:af H H'){l:Addr}(h:H' l=Option.none):H l=Option.none:=by
 cases q:H l with
 | none=>rfl
 | some o=>
  rw[e l o q]at h;cases h
theorem af.seq{K:W.Frag}{H H':Hp}{a:Addr}{xs:List V}(e:af H H')(h:av K H a xs):av K H' a xs:=by
 rcases h with (h | ⟨o,h⟩) | h
 ·exact .inl (.inl (e _ _ h))
 ·exact .inl (.inr ⟨o,e _ _ h⟩)
 ·exact .inr h
section
variable{K:W.Frag}{σ:St}{H:Hp}{Q:VK}{p C dx:Addr}{xs:List V}{v:V}{i:Nat}{j:Int}{fs:List (Str×V)}{f:Str}
theorem vr(h:σ[i]?=some (some v))(q:Q v H):mj i σ H Q:=⟨v,h,q⟩
theorem rT(s:aE K H p xs)(a:ir xs j=some v)(q:Q v H):zy K (.ref p) (.int j) H Q:=⟨_,_,_,_,rfl,rfl,s,a,q⟩
theorem rL(s:av K H p xs)(a:ir xs j=some v)(q:Q v H):xA K (.ref p) (.int j) H Q:=⟨_,_,_,_,rfl,rfl,s,a,q⟩
theorem cL(s:av K H p xs)(a:ir xs j=some v)(q:Q v H):tC (.int j) σ H λy H2=>xA K (.ref p) y H2 Q:=⟨_,_,_,_,rfl,rfl,s,a,q⟩
theorem vT(h:σ[i]?=some (some (.ref p)))(s:aE K H p xs)(a:ir xs j=some v)(q:Q v H):sr (zy K) (mj i) (tC (.int j)) σ H Q:=⟨_,h,_,_,_,_,rfl,rfl,s,a,q⟩
theorem vL(h:σ[i]?=some (some (.ref p)))(s:av K H p xs)(a:ir xs j=some v)(q:Q v H):sr (xA K) (mj i) (tC (.int j)) σ H Q:=⟨_,h,_,_,_,_,rfl,rfl,s,a,q⟩
theorem vF(h:σ[i]?=some (some (.ref p)))(e:H p=some (.ins C dx fs))(c:eh K C)(n:bj K C f)(l:fs.lookup f=some v)(q:Q v H):EV K (mj i) f σ H Q:=⟨_,h,_,_,_,_,_,rfl,e,c,n,l,q⟩
theorem vM{m:Str}{sp:Sp}{dvs:List V}{E:XK}{t:TA}(h:σ[i]?=some (some (.ref p)))(e:H p=some (.ins C dx fs))(l:fs.lookup m=none)(q:t σ H λvs H2=>sp (.ref p::(vs++dvs)) H2 Q E):LX C m sp dvs E (mj i) t σ H Q:=⟨_,h,_,_,_,rfl,e,l,q⟩
end
section
variable{K:W.Frag}{σ:St}{H:Hp}{Q:VK}{p C dx:Addr}{v:V}{fs:List (Str×V)}{f:Str}
theorem rM{m:Str}{R:Prop}(e:H p=some (.ins C dx fs))(l:fs.lookup m=none)(q:R):∃a dx fs,V.ref p=.ref a/\H a=some (.ins C dx fs)/\fs.lookup m=none/\R:=⟨_,_,_,rfl,e,l,q⟩
theorem tk{R:Bool->Prop}{k:Bool}(q:R k):∃k',V.bl k=.bl k'/\R k':=⟨k,rfl,q⟩
end
theorem nE{X:Cx}{ss:List Stmt}{t:TS}{D:Ends}{σ:St}{H:Hp}(h:eE X ss t)(q:t D σ H):∃t,eE X ss t/\t D σ H:=⟨t,h,q⟩
section
variable{K:W.Frag}{σ:St}{H:Hp}{Q:VK}{p:Addr}{xs:List V}{v:V}{i j:Nat}
theorem kQ(h:σ[i]?=some (some (.ref p)))(e:H p=some (.tup xs))(a:xs[j]?=some v)(q:Q v H):sr (zy K) (mj i) (tC (.int (j:Int))) σ H Q:=vT h (aE.of e) (dG a) q
theorem vl1(h:σ[i]?=some (some (.ref p)))(e:H p=some (.lst xs))(a:xs[j]?=some v)(q:Q v H):sr (xA K) (mj i) (tC (.int (j:Int))) σ H Q:=vL h (av.of e) (dG a) q
theorem cl1(e:H p=some (.lst xs))(a:xs[j]?=some v)(q:Q v H):tC (.int (j:Int)) σ H λy H2=>xA K (.ref p) y H2 Q:=cL (σ:=σ) (av.of e) (dG a) q
end
end L2
namespace L3
open PySem
def tests(ifs:List Expr)(env:Env):Sem Bool:=
 forIn ifs true λc r=>if r=true then (do let ok <-isTrue c env (eval c env);pure (HN ok)) else pure (HN r)
section
variable{prog:Program}{w:World}{A:Around}{R:Result->Shared->Prop}{s:Shared}
theorem afD{elt tg iter:Expr}{ifs:List Expr}{sc:Scope}{pos:Pos}{it acc:Value}{env:Env}(J:Nat->Shared->Prop){EE:Value->Shared->Prop}
  (Pn:∀e s',EE e s'->notedBy (model prog w) A env (λe s'=>R (.error e) s') e s')
  (turn:∀n s,J n s->wpAny (model prog w) A (pyNext it) (λr s₁=>(r=none->R (.ok .next) s₁)/\∀v,r=some v->
   wpAny (model prog w) A (HL tg it v) (λ_ s₂=>wpAny (model prog w) A (assign tg env v) (λ_ s₃=>wpAny (model prog w) A (tests ifs env) (λok s₄=> (ok=true->wpAny (model prog w) A (eval elt env) (λx s₅=>wpAny (model prog w) A (call (.builtin "list.append") [acc,x]) (λ_ s₆=>∃m,m<n/\J m s₆) EE s₅) EE s₄)/\ (ok=false->∃m,m<n/\J m s₄)) EE s₃) EE s₂) EE s₁) EE s)
  (n:Nat) (h:J n s):codeAny (model prog w) A (.compLoop (.ListComp elt [⟨tg,iter,ifs,0⟩] sc pos) 0 it acc env) R s:=by
 refine codeAny_loop rfl J (λn s hJ=>?_) n h;show wpAny _ A ((compTurn (.ListComp elt [⟨tg,iter,ifs,0⟩] sc pos) 0 it acc env).onRaise _) _ _ s;refine wpAny_noted (iA (E:=EE) ?_ (λ_ _ q=>q) λe s' q=>Pn e s' q);rw[compTurn_list];refine aq (yN (aq (iA (turn n s hJ) (λr s₁ h₁=>?_) λ_ _ q=>q)));cases r with
 | none=>exact aN (h₁.1 rfl)
 | some v=>
  refine aq (iA (h₁.2 v rfl) (λ_ s₂ h₂=>?_) λ_ _ q=>q);refine aq (iA h₂ (λ_ s₃ h₃=>?_) λ_ _ q=>q);refine aq (iA h₃ (λok s₄ h₄=>?_) λ_ _ q=>q);cases ok with
  | false=>exact aN ⟨rfl,h₄.2 rfl⟩
  | true=>
   refine aq (aq (iA (h₄.1 rfl) (λx s₅ h₅=>?_) λ_ _ q=>q));exact aq (iA h₅ (λ_ s₆ h₆=>aN (aN ⟨rfl,h₆⟩)) λ_ _ q=>q)
theorem aex{env:Env}{Q:Bool->Shared->Prop}{E:Value->Shared->Prop}(h:Q true s):wpAny (model prog w) A (tests [] env) Q E s:=aN h
theorem aew{c:Expr}{env:Env}{Q:Bool->Shared->Prop}{E:Value->Shared->Prop}(h:wpAny (model prog w) A (isTrue c env (eval c env)) Q E s):wpAny (model prog w) A (tests [c] env) Q E s:=by
 unfold tests;rw[yL];exact aq (aq (iA h (λok s' q=>aN (aN q)) λ_ _ q=>q))
def eD(cells:List (Str×Addr)):List (Str×eQ)->List (Str×Addr)->List (Str×Addr)
 | [],acc=>acc
 | (n,k)::r,acc=>if k == .free then eD cells r (match cells.lookup n with | some c=>(n,c)::acc | none=>acc) else eD cells r acc
theorem Rl{env:Env}:∀(names:List (Str×eQ)) (acc:List (Str×Addr)),(∀p∈names,p.2=.free->∃c,env.cells.lookup p.1=some c)->
  (forIn names acc λ(x:Str×eQ) (cs:List (Str×Addr))=>match x with
   | (name,kind)=>if (kind == nQ)=true then (do let c <-cellOf env name;pure (HN ((name,c)::cs))) else (pure (HN cs):Sem (ForInStep (List (Str×Addr)))))=pure (eD env.cells names acc)
 | [],acc,_=>rfl
 | (n,k)::r,acc,h=>by
  have ih:=λacc=>Rl r acc λp hp=>h p (dn _ hp);rw[yL]
  by_cases hk:(k == nQ)=true
  ·obtain⟨c,hc⟩:=h (n,k) dE (by simpa using hk);have e:cellOf env n=pure c:=by unfold cellOf;rw[hc]
   dsimp only;rw[if_pos hk,e];unfold eD;rw[if_pos hk,hc];exact ih _
  ·dsimp only;rw[if_neg hk];unfold eD;rw[if_neg hk];exact ih _
theorem Ds{env:Env}{sc:Scope}(h:∀p∈sc.names,p.2=.free->∃c,env.cells.lookup p.1=some c):AQ sc env=pure (eD env.cells sc.names []):=by
 unfold AQ;have e:=Rl (env:=env) sc.names [] h;simp only[e];rfl
theorem DM{cells:List (Str×Addr)}:∀(names:List (Str×eQ)) (acc:List (Str×Addr)),(∀x c,acc.lookup x=some c->cells.lookup x=some c)->∀x c,(eD cells names acc).lookup x=some c->cells.lookup x=some c
 | [],acc,h,x,c,e=>h x c e
 | (n,k)::r,acc,h,x,c,e=>by
  unfold eD at e
  split at e
  ·refine DM r _ (λy d q=>?_) x c e
   split at q
   ·rename_i c' qW
    by_cases hy:y=n
    ·subst hy;rw[yE]at q;cases q;exact qW
    ·have hb:(y == n)=false:=beq_eq_false_iff_ne.mpr hy;rw[pZ,hb]at q;exact h y d q
   ·exact h y d q
  ·exact DM r acc h x c e
theorem Je{cells:List (Str×Addr)}:∀(names:List (Str×eQ)) (acc:List (Str×Addr)) (x:Str),(∃c,acc.lookup x=some c)->∃c,(eD cells names acc).lookup x=some c
 | [],acc,x,h=>h
 | (n,k)::r,acc,x,h=>by
  unfold eD
  split
  ·refine Je r _ x ?_
   split
   ·rename_i c' qW
    by_cases hy:x=n
    ·subst hy;exact⟨c',yE⟩
    ·have hb:(x == n)=false:=beq_eq_false_iff_ne.mpr hy;rw[pZ,hb];exact h
   ·exact h
  ·exact Je r acc x h
theorem DN{cells:List (Str×Addr)}:∀(names:List (Str×eQ)) (acc:List (Str×Addr)) (x:Str),(x,nQ)∈names->(∃c,cells.lookup x=some c)->∃c,(eD cells names acc).lookup x=some c
 | [],acc,x,h,_=>by cases h
 | (n,k)::r,acc,x,h,hc=>by
  unfold eD;rcases bq.mp h with e | e
  ·cases e;obtain⟨c,hc⟩:=hc;rw[if_pos (beq_self_eq_true _),hc];exact Je r _ n ⟨c,yE⟩
  ·split
   ·exact DN r _ x e hc
   ·exact DN r acc x e hc
end
end L3
namespace L2
open PySem PySem.Spec PyProof.Rows L3
def jA(X:Cx)(sc:Scope)(N:List Str)(s:Shared)(H:Hp)(ex:List Addr)(C:Addr)(EE:Value->Shared->Prop):Cx:=
 {X with N:=N,s₀:=s,H₀:=H,env:=DR sc (eD X.env.cells sc.names []) C X.env,outer:=X.stack,ex:=ex,fn:=λ_=>false,pn:=[],xe:=EE }
def xT(X:Cx)(sc:Scope)(N:List Str)(s:Shared)(H:Hp)(ex:List Addr)(C:Addr):Cx:=jA X sc N s H ex C λ_ _=>False
structure dN(X:Cx)(sc:Scope)(N:List Str)(idx:List Nat):Prop where
 kind:sc.kind=.function
 Ek:∀y∈sc.names,y.2≠.cell
 locs:∀y∈sc.names,y.2=.local->sc.names.lookup y.1=some .local
 frees:∀y∈sc.names,y.2=.free->X.env.scope.names.lookup y.1=some .cell
 le:idx.length<=N.length
 XX:∀(k i:Nat) (x:Str),idx[k]?=some i->N[k]?=some x->X.N[i]?=some x/\sc.names.lookup x=some .free
def lE(idx:List Nat)(n:Nat)(σ:St):St:=idx.map (λi=>(σ[i]?).join)++dw (n-idx.length) none
theorem JT{idx:List Nat}{n:Nat}{σ:St}(h:idx.length<=n):(lE idx n σ).length=n:=by
 unfold lE;rw[cX,aX,aaA];lia
theorem JU{idx:List Nat}{n k:Nat}{σ:St}{v:V}(h:(lE idx n σ)[k]?=some (some v)):∃i,idx[k]?=some i/\σ[i]?=some (some v):=by
 unfold lE at h
 by_cases hk:k<idx.length
 ·rw[Aw (by simpa using hk),fw]at h;cases e:idx[k]? with
  | none=>rw[e]at h;cases h
  | some i=>
   rw[e]at h;have h':(σ[i]?).join=some v:=iz h;refine ar i rfl ?_;cases e2:σ[i]? with
   | none=>rw[e2]at h';cases h'
   | some o=>rw[e2]at h';rw[show o=some v from h']
 ·rw[Au (by simpa using hk),aav]at h
  split at h
  ·cases h
  ·cases h
def rl(env:Env)(p:Str×eQ):Str×eQ:=if (p.2 == nQ&&env.scope.kind == .function&&env.kindOf p.1 == some .cell)=true then (p.1,eQ.cell) else p
theorem Li{env:Env}{n:Str}{k:eQ}(h:(k == nQ&&env.scope.kind == .function&&env.kindOf n == some .cell)=true):rl env (n,k)=(n,.cell):=if_pos h
theorem TZ{env:Env}{n:Str}{k:eQ}(h:¬(k == nQ&&env.scope.kind == .function&&env.kindOf n == some .cell)=true):rl env (n,k)=(n,k):=if_neg h
theorem QC{env:Env}(hf:env.scope.kind=.function):∀{names:List (Str×eQ)} {x:Str},names.lookup x=some .free->env.kindOf x=some .cell->(names.map (rl env)).lookup x=some .cell
 | [],_,h,_=>by simp at h
 | (n,k)::r,x,h,hc=>by
  have ih:=@QC env hf r x;rw[iF]
  by_cases hx:x=n
  ·subst hx;rw[yE]at h;cases h;rw[Li (by rw[hf,hc];decide),yE]
  ·have hb:(x == n)=false:=beq_eq_false_iff_ne.mpr hx;rw[pZ,hb]at h;have e:=ih h hc
   by_cases q:(k == nQ&&env.scope.kind == .function&&env.kindOf n == some .cell)=true
   ·rw[Li q,pZ,hb];exact e
   ·rw[TZ q,pZ,hb];exact e
theorem Ih{env:Env}:∀{names:List (Str×eQ)} {x:Str} {kd:eQ},(names.map (rl env)).lookup x=some kd->(x,kd)∈names\/(x,nQ)∈names
 | [],_,_,h=>by simp at h
 | (n,k)::r,x,kd,h=>by
  have ih:=@Ih env r x kd;rw[iF]at h
  by_cases q:(k == nQ&&env.scope.kind == .function&&env.kindOf n == some .cell)=true
  ·rw[Li q]at h
   by_cases hx:x=n
   ·subst hx
    have hk:k=.free:=by
     rw[fJ,fJ]at q;exact A3 q.1.1
    subst hk;exact .inr dE
   ·have hb:(x == n)=false:=beq_eq_false_iff_ne.mpr hx;rw[pZ,hb]at h;exact(ih h).elim (λe=>.inl (dn _ e)) λe=>.inr (dn _ e)
  ·rw[TZ q]at h
   by_cases hx:x=n
   ·subst hx;rw[yE]at h;cases h;exact .inl dE
   ·have hb:(x == n)=false:=beq_eq_false_iff_ne.mpr hx;rw[pZ,hb]at h;exact(ih h).elim (λe=>.inl (dn _ e)) λe=>.inr (dn _ e)
theorem Inv.adopt{X:Cx}{p_:List (Addr×Obj)}{σ:St}{H:Hp}{s:Shared}{a:Addr}{o:HO}(I:Inv X p_ σ H s)(hn:H a=none)(ya:X.s₀.heap.objs.size<=a)(hL:a≠X.env.locals)
  (hc:∀x c,X.env.cells.lookup x=some c->c≠a) (hp:∀p∈X.pn++p_,p.1≠a) (new:gE X.prog X.w (upd H a o) s.heap a o):Inv X p_ σ (upd H a o) s:=by
 have ne:∀b u,H b=some u->b≠a:=λb u e=>ba e hn;refine⟨I.ok,I.os,I.bare,⟨I.base.keep,I.base.slot,λb u q n hx=>?_,I.base.there,λb xs q=>?_,λb u xs q=>?_,λb ps q=>?_⟩,I.loc,I.cell,?_,λx c e=>?_,λp hq=>?_,λb u q=>?_,I.len⟩
 ·rw[aj (eO (eK (bJ q) ya))];exact I.base.free b u q n hx
 ·have e:=I.base.og b xs q;rw[aj (ne b _ e)];exact e
 ·have e:=I.base.nA b u xs q;rw[aj (ne b _ e)];exact e
 ·refine oE (I.base.nv b ps q) λm e=>?_;exact⟨m,by rw[aj (ne b _ e)];exact e⟩
 ·rw[aj (dU hL)];exact I.free
 ·rw[aj (hc x c e)];exact I.jy x c e
 ·refine gH (I.pin p hq) λe1 e2 e3=>?_;exact iq e1 (by rw[aj (hp p hq)];exact e2) e3
 ·by_cases hb:b=a
  ·subst hb;rw[au]at q;cases q;exact new
  ·rw[aj hb]at q;exact(I.aG b u q).pG (λ_ _ _ z=>z) (λc z=>by rw[aj (ne c _ z)];exact z) λc xs z=>by rw[aj (ne c _ z)];exact z
section
variable{X:Cx}{p_:List (Addr×Obj)}{σ:St}{H:Hp}{s:Shared}{sc:Scope}{N:List Str}{idx:List Nat}{fp:List Addr}
abbrev cj:Obj:={ cls:=.type "list",data:=.seq ([]:List Value).toArray }
abbrev ky(s:Shared):Shared:={ s with heap:=s.heap.push cj }
theorem afN(I:Inv X p_ σ H s){b:Addr}(h:cV X p_ H b):X.base.get? b=none:=by
 cases e:X.base.get? b with
 | none=>rfl
 | some o=>
  rcases h.2.2.2.1 with z | z
  ·exact absurd z (I.ok.tY b o e)
  ·exact absurd (eK (bJ e) (cu I.ok.lV z)) (iQ _)
theorem ahF{EE:Value->Shared->Prop}(I:Inv X p_ σ H s)(S:dN X sc N idx)(hf:∀b∈fp,cV X p_ H b)(ho:∀b∈fp,∃o,s.heap.get? b=some o){h':Heap}{m:Str->Option Value}{t:Nat}
  (lX:h'.Ns (s.heap.push cj).objs.size m) (hk:∀b o,(s.heap.push cj).get? b=some o->h'.get? b=some o) :
  Inv (jA X sc N (ky s) H (s.heap.objs.size::fp) (s.heap.push cj).objs.size EE) [] (lE idx N.length σ) H { ky s with heap:=h',toks:=t }:=by
 have I3:Inv X p_ σ H (ky s):=I.kept (t':=s.toks) λb o e=>bo _ e;have hC:(s.heap.push cj).objs.size=s.heap.objs.size+1:=m8 _ _;have nZ:∀x c,(eD X.env.cells sc.names []).lookup x=some c->X.env.cells.lookup x=some c:=DM sc.names [] (λx c e=>by cases e)
 have clt:∀x c,(eD X.env.cells sc.names []).lookup x=some c->c<s.heap.objs.size:=λx c e=>by
  refine oE (I.cell x c (nZ x c e)) λv z=>?_;exact z.lt
 have ud:∀b∈fp,b<s.heap.objs.size:=λb hb=>by
  refine oE (ho b hb) λo e=>?_;exact bJ e
 have back:∀x,((relabel sc X.env).names.lookup x=some .cell\/(relabel sc X.env).names.lookup x=some .free)->(x,nQ)∈sc.names:=λx h=>by
  rcases h with h | h
  ·rcases Ih (env:=X.env) (names:=sc.names) (show (sc.names.map (rl X.env)).lookup x=_ from h)with e | e
   ·exact absurd rfl (S.Ek _ e)
   ·exact e
  ·rcases Ih (env:=X.env) (names:=sc.names) (show (sc.names.map (rl X.env)).lookup x=_ from h)with e | e
   ·exact e
   ·exact e
 have has:∀x,(x,nQ)∈sc.names->∃c,(eD X.env.cells sc.names []).lookup x=some c:=λx e=>
  DN sc.names [] x e (I.ok.has x (.inl (S.frees _ e rfl)))
 refine⟨⟨I.ok.mod,S.kind,I.ok.glob,I.ok.blt,aF _,λx y c e1 e2=>I.ok.inj x y c (nZ x c e1) (nZ y c e2),λx h=>has x (back x h),λx c h=>(by cases h),I.ok.hd,I.ok.frames,.inl rfl,λb hb=>?_,I3.bs,cu I.ok.lV I3.sz,λb o e hb=>?_,λb hb=>?_,I3.stack,I3.DW⟩,I.os ▸ rfl,I.bare,Un.kept hk,⟨m,lX,λk x v e1 e2 e3=>?_⟩,λx c e=>?_,I3.aG.fresh (aF _),λx c e=>I.jy x c (nZ x c e),λp hp=>absurd (show p∈([]:List (Addr×Obj)) from hp) (by simp),I3.aG.kept hk,JT S.le⟩
 ·rcases bq.mp hb with e | hb
  ·subst e;exact⟨by rw[hC];exact eO (AA _),λx c e=>eO (clt x c e)⟩
  ·refine⟨by rw[hC];exact eO (Qb (ud b hb)),λx c e=>(hf b hb).2.2.2.2.1 x c (nZ x c e)⟩
 ·rcases bq.mp hb with z | hb
  ·subst z;exact absurd (bJ (I.bk _ _ e)) (iQ _)
  ·have e':X.base.get? b=some o:=e;rw[afN I (hf b hb)]at e';cases e'
 ·intro hs;have Zs:=I.Bg b hs;rcases bq.mp hb with z | hb
  ·subst z;rcases bq.mp Zs with e | e
   ·exact absurd I.lt (by rw[<-e];exact iQ _)
   ·exact I.WG (aF _) e
  ·rcases bq.mp Zs with e | e
   ·exact(hf b hb).2.1 e
   ·exact(hf b hb).2.2.1 e
 ·refine ah (JU e2) λi h1 h2=>?_;refine oA (S.XX k i x h1 e1) λh3 h4=>?_;have gf:(x,nQ)∈sc.names:=PySem.mem_of_lookup h4;have tW:X.env.scope.names.lookup x=some .cell:=S.frees _ gf rfl;refine ah I.loc λm' qR Cs=>?_;refine ah (Cs i x v h3 h2 (.inr (.inl tW))) λu r l=>?_;refine ar u r (.inr ⟨.inl (QC I.ok.kind h4 tW),?_⟩);rcases l with ⟨q,_⟩ | ⟨_,c,ec,z⟩
  ·have q':X.env.scope.names.lookup x=some .local:=q;rw[tW]at q';cases q'
  ·refine oE (has x gf) λc' CP=>?_;have:=nZ x c' CP;rw[ec]at this;cases this;exact ar c CP (z.keeps λb o e=>hk b o (bo _ e))
 ·refine oE (I.cell x c (nZ x c e)) λv z=>?_;exact⟨v,z.keeps λb o e=>hk b o (bo _ e)⟩
theorem Tj{EE:Value->Shared->Prop}{σ':St}{H':Hp}{s':Shared}{pl:List (Addr×Obj)}(I:Inv X p_ σ H s)(hf:∀b∈fp,cV X p_ H b)
  (I':Inv (jA X sc N (ky s) H (s.heap.objs.size::fp) (s.heap.push cj).objs.size EE) pl σ' H' s'):Inv X p_ σ H' s':=by
 have I3:Inv X p_ σ H (ky s):=I.kept (t':=s.toks) λb o e=>bo _ e;have fa:cV X p_ H s.heap.objs.size:=I.fo (aF _) (I.aG.fresh (aF _));refine I3.Mu (ch:=s.heap.objs.size::fp) (I'.os.trans rfl) I'.base I'.aG I'.bare λb hb=>?_
 have q:cV X p_ H b:=by
  rcases bq.mp hb with e | hb
  ·subst e;exact fa
  ·exact hf b hb
 exact⟨q.2.2.2.1,q.2.1,q.2.2.2.2.1,q.2.2.2.2.2⟩
end
abbrev v5:=St->Hp->(Bool->Hp->Prop)->Prop
def jS:v5:=λ_ H Q=>Q true H
def zT(X:Cx)(ifs:List Expr)(t:v5):Prop:=
 ∀(p_:List (Addr×Obj)) (s:Shared) (σ:St) (H:Hp) (Q:Bool->Hp->Prop),Inv X p_ σ H s->t σ H Q->wpAny (model X.prog X.w) X.A (tests ifs X.env) (TP X p_ σ Q) X.xe s
theorem jt{X:Cx}:zT X [] jS:=λ_ _ _ H _ I h=>aex ⟨H,I,h⟩
theorem D1{X:Cx}{c:Expr}{t:TT}(h:PT X c t):zT X [c] t:=λp_ s σ H Q I q=>aew (h p_ s σ H Q I q)
def BC(n:Nat)(σ σ2:St):Prop:=σ2.length=σ.length/\∀i,i<n->σ2[i]?=σ[i]?
def BD(J:It)(g:TG)(tc:v5)(te:TE)(σ0:St)(H1:Hp)(K:List V->Hp->Prop):Prop:=
 ∃W:Nat->Nat->List V->Hp->Prop,(∃m,W 0 m [] H1)/\∀i m ys H,W i m ys H->
  (J.stop i H/\K ys H)\/
  (J.go i H/\ys.length<aP/\∃N:List V->Hp->Prop,(∀zs H',N zs H'->∃m',m'<m/\W (i+1) m' zs H')/\
   ∀x H',J.vP i H x H'->g x σ0 H' λσ2 H2=>tc σ2 H2 λb H3=>if b=true then te σ2 H3 (λy H4=>N (ys++[y]) H4) else N ys H3)
def LY(wi:TI)(g:TG)(tc:v5)(te:TE)(idx:List Nat)(n:Nat):TE:=λσ H Q=>wi σ H λJ H1=>
 BD J g tc te (lE idx n σ) H1 λys H2=>ys.length<=aP/\∀p,H2 p=none->Q (.ref p) (upd H2 p (.lst ys))
def zx(n:Nat)(g:TG):Prop:=∀x σ H Q,g x σ H Q->g x σ H λσ2 H2=>Q σ2 H2/\BC n σ σ2
theorem JG{n k:Nat}{σ:St}{v:Option V}(h:n<=k):BC n σ (σ.set k v):=⟨qa,λi hi=>Ax li⟩
theorem je{n k:Nat}(h:n<=k):zx n (ij k):=λx σ H Q q=>⟨q,JG h⟩
theorem IG{K:PySem.W.Frag}{n k l:Nat}(h:n<=k)(h':n<=l):zx n (WK K 2 (Mp (ij k) (Mp (ij l) WL))):=λx σ H Q q=>by
 refine nW q λa xs e1 e2 e3 aa=>?_;refine a9 aa λv r e4 aa=>?_;refine cG aa λv' r' e5 e6 q=>?_;refine⟨a,⟨xs,e1,e2,e3,v,r,e4,v',r',e5,e6,q,?_⟩⟩;have k1:BC n σ (σ.set k (some v)):=JG h;have k2:BC n (σ.set k (some v)) ((σ.set k (some v)).set l (some v')):=JG h';exact⟨k2.1.trans k1.1,λi hi=>(k2.2 i hi).trans (k1.2 i hi)⟩
theorem Sn{X:Cx}{p_:List (Addr×Obj)}{σ σ2:St}{H:Hp}{s:Shared}{idx:List Nat}{n:Nat}(I:Inv X p_ σ2 H s)(k:BC idx.length (lE idx n σ) σ2):Inv X p_ (lE idx n σ) H s:=
 I.weak k.1.symm λi v e=>by
  refine ah (JU e) λj h1 _=>?_;rw[k.2 i (eJ.mp h1).1];exact e
theorem iW{J:It}{g:TG}{tc:v5}{te:TE}{σ0:St}{H1:Hp}{K:List V->Hp->Prop}{n:Nat}(P:Nat->List V->Hp->Prop)(hn:n<=aP)(h0:P 0 [] H1)(hle:∀i ys H,P i ys H->ys.length<=i)
  (OV:∀i ys H,i<n->P i ys H->J.go i H) (cR:∀ys H,P n ys H->J.stop n H)
  (hs:∀i ys H,i<n->P i ys H->∀x H',J.vP i H x H'->g x σ0 H' λσ2 H2=>tc σ2 H2 λb H3=>if b=true then te σ2 H3 (λy H4=>P (i+1) (ys++[y]) H4) else P (i+1) ys H3)
  (hd:∀ys H,P n ys H->K ys H):BD J g tc te σ0 H1 K:=by
 refine⟨λi m ys H=>m=n-i/\i<=n/\P i ys H,⟨n,by simp,bX _,h0⟩,?_⟩;rintro i m ys H ⟨rfl,hi,p⟩
 by_cases dB:i<n
 ·refine .inr (iq (OV i ys H dB p) (by have:=hle i ys H p;lia) ⟨P (i+1),λzs H' p'=>⟨n-(i+1),om,rfl,dB,p'⟩,hs i ys H dB p⟩)
 ·have e:i=n:=li;subst e;exact .inl ⟨cR ys H p,hd ys H p⟩
section
variable{X:Cx}{tg elt iter:Expr}{ifs:List Expr}{wi:TI}{g:TG}{tc:v5}{te:TE}{sc:Scope}{N:List Str}{idx:List Nat}{pos:Pos}
theorem JN{p_:List (Addr×Obj)}{s:Shared}{σ:St}{H:Hp}{K:List V->Hp->Prop}{E EE:Value->Shared->Prop}{RR:Addr->Value->Result->Shared->Prop}(hc:X.calm=true)(S:dN X sc N idx)(gk:zx idx.length g)
  {it:Addr} {fp:List Addr} {tn:Nat->Heap->Prop} {J:It} (hg:PG (jA X sc N (ky s) H (s.heap.objs.size::fp) (s.heap.push cj).objs.size EE) tg g) (ht:zT (jA X sc N (ky s) H (s.heap.objs.size::fp) (s.heap.push cj).objs.size EE) ifs tc) (he:PE (jA X sc N (ky s) H (s.heap.objs.size::fp) (s.heap.push cj).objs.size EE) elt te) (I:Inv X p_ σ H s) (T:Turn X.prog X.w X.K tg J fp it tn) (st:tn 0 s.heap) (hf:∀b∈fp,cV X p_ H b) (hW:BD J g tc te (lE idx N.length σ) H K)
  (Pn:∀e s',EE e s'->notedBy (model X.prog X.w) X.A (DR sc (eD X.env.cells sc.names []) (s.heap.push cj).objs.size X.env) (λe s'=>RR (s.heap.push cj).objs.size (.ref s.heap.objs.size) (.error e) s') e s')
  (hR:∀(s':Shared) (ys:List V) (H':Hp) (m:Str->Option Value) (ak:List Value) (n:Nat),K ys H'->Inv X p_ σ H' s'->s'.heap.Ns (s.heap.push cj).objs.size m->H' (s.heap.push cj).objs.size=none->H' s.heap.objs.size=none->Vals ys ak->
   s'.heap.get? s.heap.objs.size=some { cls:=.type "list",data:=.seq ak.toArray n }->RR (s.heap.push cj).objs.size (.ref s.heap.objs.size) (.ok .next) s') :
  wpAny (model X.prog X.w) X.A (newList []) (λacc s₃=>wpAny (model X.prog X.w) X.A (newFunctionEnv sc X.env.globals (eD X.env.cells sc.names []) [] X.env.qual none .none (some X.env)) (λBV s₄=>
   codeAny (model X.prog X.w) X.A (.compStart (.ListComp elt [⟨tg,iter,ifs,0⟩] sc pos) 0 (.ref it) acc { BV with scope:=relabel sc X.env }) (RR BV.locals acc) s₄) E s₃) E s:=by
 refine ah hW λW aa turn=>?_;refine oE aa λm0 w0=>?_;refine uK (wpAny_newFunctionEnv S.Ek (by intro y hy;cases hy) (λh' lX Gp=>?_) S.kind);have hC:(s.heap.push cj).objs.size=s.heap.objs.size+1:=m8 _ _;have hk:∀b o,(s.heap.push cj).get? b=some o->h'.get? b=some o:=λb o e=>(Gp.2 b (eO (bJ e))).trans (bo _ e);have ho:∀b∈fp,∃o,s.heap.get? b=some o:=λb hb=>let ⟨o,e,_⟩:=T.obj _ _ st b hb;⟨o,e⟩
 have I0:=ahF (EE:=EE) (t:=s.toks+([]:List (Str×Value)).length) I S hf ho lX hk
 have fn:∀b∈fp,b≠s.heap.objs.size:=λb hb=>by
  refine oE (ho b hb) λo e=>?_;exact eO (bJ e)
 have accN:H s.heap.objs.size=none:=I.aG.fresh (aF _)
 have Pq:∀{H':Hp} {pl:List (Addr×Obj)},(∀b∈fp,H' b=none)->(∀p∈pl,p.1=s.heap.objs.size)->∀b∈fp,cV (jA X sc N (ky s) H (s.heap.objs.size::fp) (s.heap.push cj).objs.size EE) pl H' b:=λ{H' pl} hn hp b hb=>by
  refine⟨(hn b hb),((I0.ok.sD b (dn _ hb)).1),(I0.ok.sj b (dn _ hb)),(.inl (dn _ hb)),((I0.ok.sD b (dn _ hb)).2),(λp hq=>?_)⟩;have jW:p∈pl:=by simpa[jA]using hq
  rw[hp p jW];exact dU (fn b hb)
 have loop:codeAny (model X.prog X.w) X.A (.compLoop (.ListComp elt [⟨tg,iter,ifs,0⟩] sc pos) 0 (.ref it) (.ref s.heap.objs.size) (DR sc (eD X.env.cells sc.names []) (s.heap.push cj).objs.size X.env))
   (RR (s.heap.push cj).objs.size (.ref s.heap.objs.size)) { ky s with heap:=h',toks:=s.toks+([]:List (Str×Value)).length }:=by
  refine afD (EE:=EE) (λn s'=>∃i ys H' ak k,Inv (jA X sc N (ky s) H (s.heap.objs.size::fp) (s.heap.push cj).objs.size EE) [] (lE idx N.length σ) H' s'/\tn i s'.heap/\(∀b∈fp,H' b=none)/\H' s.heap.objs.size=none/\
   Vals ys ak/\s'.heap.get? s.heap.objs.size=some { cls:=.type "list",data:=.seq ak.toArray k }/\W i n ys H') Pn ?_ m0 ?_
  ·rintro n s3 ⟨i,ys,H3,ak,kk,I3,xZ,CL,Hg,yc,ac3,w3⟩
   have Fo:∀{H':Hp},H' s.heap.objs.size=none->cV (jA X sc N (ky s) H (s.heap.objs.size::fp) (s.heap.push cj).objs.size EE) [] H' s.heap.objs.size:=λ{H'} hn=>
    ⟨hn,(I0.ok.sD _ dE).1,I0.ok.sj _ dE,.inl dE,(I0.ok.sD _ dE).2,λp hq=>absurd (show p∈([]:List (Addr×Obj)) from hq) (by simp)⟩
   have P3:Inv (jA X sc N (ky s) H (s.heap.objs.size::fp) (s.heap.push cj).objs.size EE) [(s.heap.objs.size,{ cls:=.type "list",data:=.seq ak.toArray kk })] (lE idx N.length σ) H3 s3:=I3.vh λp hp=>by
    have e:p=(s.heap.objs.size,{ cls:=.type "list",data:=.seq ak.toArray kk }):=by simpa using hp
    subst e;exact⟨ac3,Hg,((Fo Hg).2.1),((Fo Hg).2.2.1),(λv z=>by cases z)⟩
   have one:∀p∈[((s.heap.objs.size,{ cls:=.type "list",data:=.seq ak.toArray kk }):Addr×Obj)],p.1=s.heap.objs.size:=λp hp=>by
    have e:p=(s.heap.objs.size,{ cls:=.type "list",data:=.seq ak.toArray kk }):=by simpa using hp
    rw[e]
   rcases turn i n ys H3 w3 with ⟨stop,kq⟩ | ⟨go,hz,NN,Z2,step⟩
   ·refine aO (T.done (jA X sc N (ky s) H (s.heap.objs.size::fp) (s.heap.push cj).objs.size EE) rfl rfl rfl hc i _ s3 _ H3 _ P3 (Pq CL one) xZ stop) λr s4 ⟨hr,I4⟩=>⟨λ_=>?_,λv e=>(by rw[hr]at e;cases e)⟩;refine ah I4.loc λm' qR _=>?_;exact hR s4 ys H3 m' ak kk kq (Tj I hf I4) qR I4.free Hg yc (I4.pin _ (gg _ dE)).1
   ·refine aO (T.item (jA X sc N (ky s) H (s.heap.objs.size::fp) (s.heap.push cj).objs.size EE) rfl rfl rfl hc i _ s3 _ H3 _ P3 (Pq CL one) xZ go) λr s4 ⟨u,hr,h4⟩=>⟨λe=>(by rw[hr]at e;cases e),λv e=>?_⟩;rw[hr]at e;cases e;refine aO h4 λ_ s5 ⟨x,H5,I5,r5,y5,um,Am⟩=>?_;have PH:=I5.pinned (Pq Am one) (T.obj _ _ um);refine aO (hg _ s5 _ H5 x u _ PH r5 (gk _ _ _ _ (step x H5 y5))) λ_ s6 ⟨σ6,H6,I6,q6,k6⟩=>?_;refine aO (ht _ s6 σ6 H6 _ I6 q6) λok s7 ⟨H7,I7,q7⟩=>⟨λe=>?_,λe=>?_⟩
    ·subst e;rw[if_pos rfl]at q7;refine aO (he _ s7 σ6 H7 _ I7 q7) λv s8 ⟨y,H8,I8,r8,n8⟩=>?_;refine ah (Z2 _ _ n8) λm' hm w8=>?_;have pa:=I8.pin (s.heap.objs.size,{ cls:=.type "list",data:=.seq ak.toArray kk }) (gg _ (oS _ dE));have hlen:=yc.length;refine wpAny_list_append_plain (items:=ak.toArray) ⟨kk,pa.1⟩ (λh9 pl9 Ye=>?_) (by rw[dq];lia);have PF:Inv (jA X sc N (ky s) H (s.heap.objs.size::fp) (s.heap.push cj).objs.size EE) (zh fp s5.heap) σ6 H8 s8:=I8.vh λp hp=>I8.pin p (gg _ (gg _ hp))
     have I9:=PF.turned (h':=h9) (t':=s8.toks) (it:=s.heap.objs.size) (λb o hb e=>(Ye.2 b hb).trans e) pa.2.1 (Fo pa.2.1).2.1 (.inl dE) (Fo pa.2.1).2.2.2.2.1 (λp hp=>by
      have Gx:p∈zh fp s5.heap:=by simpa[jA]using hp
      exact fn p.1 (RL Gx).1)
     refine oE pl9 λk9 e9=>?_;refine⟨m',⟨hm,i+1,ys++[y],H8,ak++[v],k9,Sn (I9.vh λp hp=>absurd hp (by simp)) k6,T.keep _ _ _ um λb hb o e=>?_,λb hb=>?_,pa.2.1,yc.append (.cons r8 .nil),?_,w8⟩⟩
     ·have q:=(PF.pin (b,o) (gg _ (yX hb e))).1;exact(Ye.2 b (fn b hb)).trans q
     ·refine ah (T.obj _ _ um b hb) λo e _=>?_;exact(PF.pin (b,o) (gg _ (yX hb e))).2.1
     ·rw[e9];simp
    ·subst e;rw[if_neg dh]at q7;refine ah (Z2 _ _ q7) λm' hm w7=>?_;have pa:=I7.pin (s.heap.objs.size,{ cls:=.type "list",data:=.seq ak.toArray kk }) (gg _ (oS _ dE));refine⟨m',⟨hm,i+1,ys,H7,ak,kk,Sn (I7.vh λp hp=>absurd hp (by simp)) k6,T.keep _ _ _ um λb hb o e=>?_,λb hb=>?_,pa.2.1,yc,pa.1,w7⟩⟩
     ·exact(I7.pin (b,o) (gg _ (gg _ (yX hb e)))).1
     ·refine ah (T.obj _ _ um b hb) λo e _=>?_;exact(I7.pin (b,o) (gg _ (gg _ (yX hb e)))).2.1
  ·exact⟨0,([]),H,([]),0,I0,(T.keep _ _ _ st λb hb o e=>hk b o (bo _ e)),(λb hb=>(hf b hb).1),accN,.nil,(hk _ _ (gy _ rfl)),w0⟩
 exact codeAny_compStart_list loop (T.self _ 0 _ _ _ (T.keep _ _ _ st λb hb o e=>hk b o (bo _ e)) loop)
theorem ji(hc:X.calm=true)(S:dN X sc N idx)(gk:zx idx.length g)(hi:PI X tg iter wi)
  (hg:∀s H ex C,PG (xT X sc N s H ex C) tg g) (ht:∀s H ex C,zT (xT X sc N s H ex C) ifs tc) (he:∀s H ex C,PE (xT X sc N s H ex C) elt te)
  (hs:∀x,HC iter X.env x=pure x:=by intro _;rfl):PE X (.ListComp elt [⟨tg,iter,ifs,0⟩] sc pos) (LY wi g tc te idx N.length):=by
 intro p_ s σ H Q I h;rw[eval_ListComp];have qU:AQ sc X.env=pure (eD X.env.cells sc.names []):=Ds λp hp e=>I.ok.has p.1 (.inl (S.frees p hp e));refine PV (use:=none) rfl hs qU S.kind S.locs (aO (hi p_ s σ H _ I h) λv s1 h1=>aO h1 λCi s2 h2=>?_);obtain⟨it,fp,tn,J,H2,e,I2,T,qJ,f2,hW⟩:=h2;subst e;refine JN (EE:=λ_ _=>False) (RR:=λC acc=>compPost (model X.prog X.w) X.A X.xe none (EP X p_ σ Q) acc C) hc S gk (hg _ _ _ _) (ht _ _ _ _) (he _ _ _ _) I2 T qJ f2 hW (λ_ _ z=>z.elim) λs' ys H' m ak n kq I' lX CH wD rv ea=>?_;have hC:(s2.heap.push cj).objs.size=s2.heap.objs.size+1:=m8 _ _;have fa:cV X p_ H2 s2.heap.objs.size:=I2.fo (aF _) (I2.aG.fresh (aF _));have fC:cV X p_ H2 (s2.heap.push cj).objs.size:=I2.fo (by rw[hC];exact jq _) (I2.aG.fresh (by rw[hC];exact jq _));have ya:X.s₀.heap.objs.size<=s2.heap.objs.size:=I2.sz;have I1:=Inv.adopt (o:=.lst ys) I' wD ya fa.2.1 fa.2.2.2.2.1 fa.2.2.2.2.2 ⟨kq.1,ak,n,rv,ea⟩;refine ar m lX λh' sb=>(dv (.ref s2.heap.objs.size) _ (I1.turned (h':=h') (t':=s'.toks) (it:=(s2.heap.push cj).objs.size) (λb o hb e=>(sb.2 b hb).trans e) ?_ fC.2.1 (.inr (by rw[hC];exact wJ ya)) fC.2.2.2.2.1 fC.2.2.2.2.2) rfl (kq.2 _ wD));rw[aj (by rw[hC];exact Df _)];exact CH
theorem Q7{i:Nat}{x:Str}{pos' WZ:Pos}(hN:X.N.Nodup)(hx:X.N[i]?=some x)(hl:X.env.scope.names.lookup x=some .local)(hc:X.calm=true)(S:dN X sc N idx)(gk:zx idx.length g)(hi:PI X tg iter wi)
  (hg:∀s H ex C,PG (xT X sc N s H ex C) tg g) (ht:∀s H ex C,zT (xT X sc N s H ex C) ifs tc) (he:∀s H ex C,PE (xT X sc N s H ex C) elt te)
  (hsw:AY (.ListComp elt [⟨tg,iter,ifs,0⟩] sc pos) (some (.Name x pos')) WZ.line X.env=pure true:=by rfl)
  (hs:∀x,HC iter X.env x=pure x:=by intro _;rfl):PS X (.Assign [.Name x pos'] (.ListComp elt [⟨tg,iter,ifs,0⟩] sc pos) WZ) (MK (LY wi g tc te idx N.length) (ij i)):=by
 intro p_ s σ H D I h;rw[exec_Assign_Name_used _ _ _ _ hsw];refine aq (yN (aq ?_));have qU:AQ sc X.env=pure (eD X.env.cells sc.names []):=Ds λp hp e=>I.ok.has p.1 (.inl (S.frees p hp e));show wpAny _ X.A (do let _ <-comprehension (.ListComp elt [⟨tg,iter,ifs,0⟩] sc pos) sc X.env _ (newList []) false (eval iter X.env) (some (assign (.Name x pos') X.env))) _ _ s;refine aq (iA (PV (use:=some (assign (.Name x pos') X.env)) (Q:=λ_ s'=>SP X p_ D .next s') rfl hs qU S.kind S.locs (aO (hi p_ s σ H _ I h) λv s1 h1=>aO h1 λCi s2 h2=>?_)) (λ_ s' q=>aN (aN q)) λ_ _ q=>q);obtain⟨it,fp,tn,J,H2,e,I2,T,qJ,f2,hW⟩:=h2;subst e;refine JN (EE:=λ_ _=>False) (RR:=λC acc=>compPost (model X.prog X.w) X.A X.xe (some (assign (.Name x pos') X.env)) (λ_ s'=>SP X p_ D .next s') acc C) hc S gk (hg _ _ _ _) (ht _ _ _ _) (he _ _ _ _) I2 T qJ f2 hW (λ_ _ z=>z.elim) λs' ys H' m ak n kq I' lX CH wD rv ea=>?_;have hC:(s2.heap.push cj).objs.size=s2.heap.objs.size+1:=m8 _ _;have fa:cV X p_ H2 s2.heap.objs.size:=I2.fo (aF _) (I2.aG.fresh (aF _));have fC:cV X p_ H2 (s2.heap.push cj).objs.size:=I2.fo (by rw[hC];exact jq _) (I2.aG.fresh (by rw[hC];exact jq _));have ya:X.s₀.heap.objs.size<=s2.heap.objs.size:=I2.sz;have I1:=Inv.adopt (o:=.lst ys) I' wD ya fa.2.1 fa.2.2.2.2.1 fa.2.2.2.2.2 ⟨kq.1,ak,n,rv,ea⟩
 have apj:upd H' s2.heap.objs.size (.lst ys) (s2.heap.push cj).objs.size=none:=by
  rw[aj (by rw[hC];exact Df _)];exact CH
 show wpAny (model X.prog X.w) X.A (assign (.Name x pos') X.env (.ref s2.heap.objs.size)) _ X.xe s';refine wpAny_assign_Name (RA (v:=.ref s2.heap.objs.size) I1 hN hx (.inl hl) rfl (λs3 I3 ⟨a,sb,ha⟩=>?_) (.inr hl))
 have aC:(s2.heap.push cj).objs.size≠a:=by
  rcases ha with e | e
  ·rw[e];exact fC.2.1
  ·exact dU (fC.2.2.2.2.1 x a e)
 refine ar m (lX.sameBut sb aC) λh' sb'=>(eW _ _ (I3.turned (h':=h') (t':=s3.toks) (it:=(s2.heap.push cj).objs.size) (λb o hb e=>(sb'.2 b hb).trans e) apj fC.2.1 (.inr (by rw[hC];exact wJ ya)) fC.2.2.2.2.1 fC.2.2.2.2.2) (kq.2 _ wD))
end
end L2
namespace L2
open PySem PySem.W PyProof.Rows
section
variable{cmp:Nat->Nat->(Bool->Shared->Prop)->Shared->Prop}{r:Nat->Int}{n:Nat}{p:Array Nat}{s:Shared}
def rk(r:Nat->Int)(p:Array Nat)(k:Nat):Int:=r (p.getD k 0)
def i0(n:Nat)(p:Array Nat):Prop:=p.Perm (List.range n).toArray
def tR(r:Nat->Int)(p:Array Nat)(m:Nat):Prop:=∀i j,i<j->j<m->rk r p i<rk r p j
theorem i0.size(g:i0 n p):p.size=n:=by
 have:=g.size_eq;simpa using this
theorem i0.lt(g:i0 n p){k:Nat}(hk:k<n):p.getD k 0<n:=by
 have hs:=g.size;have hm:p[k]'(by exact wg)∈p:=Array.getElem_mem _;have:=(g.mem_iff).mp hm;simp only[Rr,show k<p.size by exact wg,dif_pos];simpa using this
theorem i0.ne(g:i0 n p){i j:Nat}(hi:i<n)(hj:j<n)(h:i≠j):p.getD i 0≠p.getD j 0:=by
 have hs:=g.size;have nd:p.toList.Nodup:=(aal.mp g).nodup_iff.mpr (by simpa using List.nodup_range);intro e;simp only[Rr,show i<p.size by exact wg,show j<p.size by exact wg,dif_pos]at e;have e':p.toList[i]'(by simpa using (by exact wg:i<p.size))=p.toList[j]'(by simpa using (by exact wg:j<p.size)):=by simpa using e
 rcases aaR h with q | q
 ·exact oQ.mp nd i j _ _ q e'
 ·exact oQ.mp nd j i _ _ q e'.symm
variable(hr:∀i j,i<n->j<n->r i=r j->i=j)(hc:∀i j (C:Bool->Shared->Prop),i<n->j<n->i≠j->C (decide (r i<r j)) s->cmp i j C s)
include hr hc
theorem Md(g:i0 n p){i j:Nat}(hi:i<n)(hj:j<n)(h:i≠j):rk r p i≠rk r p j:=λe=>g.ne hi hj h (hr _ _ (g.lt hi) (g.lt hj) e)
theorem LK(g:i0 n p){Q:Nat->Shared->Prop}:∀f m,1<=m->m+f<=n->tR r p m->(∀m',m<=m'->m'<=m+f->tR r p m'->(m'<m+f->rk r p m'<rk r p (m'-1))->Q m' s)->(kas_asc p f m).kasWp cmp Q s
 | 0,m,h1,h2,ri,k=>k m (aF _) (aF _) ri λh=>absurd h (iQ _)
 | f+1,m,h1,h2,ri,k=>by
  refine hc _ _ _ (g.lt li) (g.lt li) (g.ne om om li) ?_
  by_cases hb:r (p.getD m 0)<r (p.getD (m-1) 0)
  ·simp only[hb,decide_true,if_true];exact k m (aF _) li ri λ_=>hb
  ·simp only[hb,decide_false,wI,if_false];refine LK g f (m+1) li li (λi j oK hj=>?_) λm' a b c d=>k m' li li c λh=>d li
   by_cases e:j=m
   ·subst e
    have h3:rk r p (j-1)<rk r p j:=by
     have:=Md hr hc g (i:=j-1) (j:=j) li li li;unfold rk at this ⊢;omega
    by_cases e2:i=j-1
    ·subst e2;exact h3
    ·have:=ri i (j-1) li om;lia
   ·exact ri i j oK li
theorem Ut(g:i0 n p){Q:Array Nat×Nat×Nat->Shared->Prop}:∀f m,1<=m->m+f<=n->(∀i j,i<j->j<m->rk r p j<rk r p i)->
  (∀m',m<=m'->m'<=m+f->(∀i j,i<j->j<m'->rk r p j<rk r p i)->Q (p,m',0) s)->(kas_desc f p m 0).kasWp cmp Q s
 | 0,m,h1,h2,ri,k=>k m (aF _) (aF _) ri
 | f+1,m,h1,h2,ri,k=>by
  refine hc _ _ _ (g.lt om) (g.lt om) (g.ne om om om) ?_
  by_cases hb:r (p.getD m 0)<r (p.getD (m-1) 0)
  ·simp only[hb,decide_true,if_true];rw[if_neg li];refine Ut g f (m+1) om om (λi j oK hj=>?_) λm' a b c=>k m' om om c
   by_cases e:j=m
   ·subst e;have h3:rk r p j<rk r p (j-1):=hb
    by_cases e2:i=j-1
    ·subst e2;exact h3
    ·have:=ri i (j-1) om om;lia
   ·exact ri i j oK om
  ·simp only[hb,decide_false,wI,if_false];refine hc _ _ _ (g.lt li) (g.lt li) (g.ne om om li) ?_
   have h3:r (p.getD (m-1) 0)<r (p.getD m 0):=by
    have:=Md hr hc g (i:=m-1) (j:=m) om om om;unfold rk at this;omega
   simp only[h3,decide_true,if_true];exact k m (aF _) om ri
theorem UZ(g:i0 n p){m k:Nat}(hm:m<=n)(hk:k<m):rk r (kas_rev p 0 m) k=rk r p (m-1-k):=by
 have hs:=g.size;unfold rk kas_rev;rw[Hn,getElem?_mirror_all li,if_pos ⟨bX _,hk⟩,Hn]
 congr 3
 lia
theorem afS(g:i0 n p){m:Nat}(h1:1<=m)(hm:m<=n)(ri:∀i j,i<j->j<m->rk r p j<rk r p i){Q:Nat×Array Nat->Shared->Prop}
  (k:∀m' p',1<=m'->m'<=n->i0 n p'->tR r p' m'->Q (m',p') s):(kas_tail3 m n p).kasWp cmp Q s:=by
 unfold kas_tail3;rw[Dj];have g':i0 n (kas_rev p 0 m):=(mirror_perm _ _ _ _).trans g;refine LK hr hc g' _ _ h1 li (λi j oK hj=>?_) λm' a b c _=>k m' _ (by exact wj) li g' c;rw[UZ hr hc g hm li,UZ hr hc g hm hj];exact ri _ _ om om
theorem ahE(g:i0 n p)(h1:1<=n){Q:Nat×Array Nat->Shared->Prop}(k:∀m' p',1<=m'->m'<=n->i0 n p'->tR r p' m'->Q (m',p') s):(kas_count n p).kasWp cmp Q s:=by
 unfold kas_count;rw[Dj];refine LK hr hc g _ _ (aF _) om (λi j oK hj=>absurd oK li) λm a b ri hb=>?_
 by_cases e:m=n
 ·rw[if_pos (by simpa using e)];exact k m p (by exact w0) li g ri
 ·rw[if_neg (by simpa using e)]
  by_cases h2:m > 1
  ·rw[if_pos h2];refine hc _ _ _ (g.lt li) (g.lt li) (g.ne om om li) ?_;have h3:=ri 0 (m-1) om om;unfold rk at h3;simp only[h3,decide_true,if_true];exact k m p (by exact w0) li g ri
  ·rw[if_neg h2];have hm:m=1:=li;subst hm;have h3:=hb li;unfold kas_descPart;rw[Dj];refine Ut hr hc g _ _ (by exact xd) li (λi j oK hj=>?_) λm' a b ri'=>?_
   ·have:i=0/\j=1:=li;rw[this.1,this.2];exact h3
   ·simp only[iQ,gt_iff_lt,if_false];exact afS hr hc g li li ri' k
theorem JB(g:i0 n p){k:Nat}(hk:k<n)(ri:tR r p k){Q:Nat->Shared->Prop}:∀f l u,l<=u->u<=k->u-l<=f->(∀i,i<l->rk r p i<rk r p k)->(∀i,u<=i->i<k->rk r p k<rk r p i)->
  (∀l,l<=k->(∀i,i<l->rk r p i<rk r p k)->(∀i,l<=i->i<k->rk r p k<rk r p i)->Q l s)->(kas_place p k f l u).kasWp cmp Q s
 | 0,l,u,h1,h2,h3,a,b,q=>q l (by exact wj) a λi hi hk=>b i li hk
 | f+1,l,u,h1,h2,h3,a,b,q=>by
  unfold kas_place
  by_cases e:l ≥ u
  ·rw[if_pos e];exact q l (by exact wj) a λi hi hk=>b i (by exact wj) hk
  ·rw[if_neg e];refine hc _ _ _ (g.lt hk) (g.lt li) (g.ne hk om li) ?_;have hm:(l+u)/2<u:=li;have hl:l<=(l+u)/2:=li
   by_cases hb:r (p.getD k 0)<r (p.getD ((l+u)/2) 0)
   ·simp only[hb,decide_true,if_true];refine JB g hk ri f l ((l+u)/2) hl li om a (λi hi Ct=>?_) q
    by_cases e2:i=(l+u)/2
    ·subst e2;exact hb
    ·have:=ri ((l+u)/2) i li Ct;have CB:rk r p k<rk r p ((l+u)/2):=hb;lia
   ·simp only[hb,decide_false,wI,if_false]
    have CB:rk r p ((l+u)/2)<rk r p k:=by
     have:=Md hr hc g (i:=(l+u)/2) (j:=k) li hk li;unfold rk at this ⊢;omega
    refine JB g hk ri f ((l+u)/2+1) u (by exact xf) h2 om (λi hi=>?_) b q
    by_cases e2:i=(l+u)/2
    ·subst e2;exact CB
    ·have:=ri i ((l+u)/2) li (by exact wh);lia
theorem Vm(g:i0 n p){k l:Nat}(hk:k<n)(hl:l<=k)(j:Nat):rk r (bubble p k (k-l)) j=if j=l then rk r p k else if l<j/\j<=k then rk r p (j-1) else rk r p j:=by
 have hs:=g.size;unfold rk;rw[Hn,getElem?_bubble (by exact wg) _ li,show k-(k-l)=l by lia];simp only[Hn]
 repeat' split
 all_goals first | rfl | (exfalso;omega)
theorem Vn{Q:Array Nat->Shared->Prop}(q:∀p',i0 n p'->tR r p' n->Q p' s):∀f k (p:Array Nat),i0 n p->k+f=n->tR r p k->(kas_bin f p k).kasWp cmp Q s
 | 0,k,p,g,h,ri=>q p g (by have:k=n:=om;rwa[this]at ri)
 | f+1,k,p,g,h,ri=>by
  unfold kas_bin;rw[Dj];refine JB hr hc g li ri k 0 k (bX _) (aF _) (by exact w1) (λi hi=>absurd hi li) (λi hi hk=>absurd hk li) λl hl a b=>?_;refine Vn q f (k+1) _ ((bubble_perm _ _ _).trans g) li λi j oK hj=>?_;rw[Vm hr hc g li hl,Vm hr hc g om hl]
  by_cases e1:i=l
  ·rw[if_pos e1,if_neg li,if_pos li];exact b _ li li
  ·rw[if_neg e1]
   by_cases e2:j=l
   ·rw[if_pos e2,if_neg li];exact a i (by exact wf)
   ·rw[if_neg e2]
    by_cases h3:l<i/\i<=k
    ·rw[if_pos h3,if_pos li];exact ri _ _ om li
    ·rw[if_neg h3]
     by_cases h4:l<j/\j<=k
     ·rw[if_pos h4]
      by_cases e5:i=j-1
      ·lia
      ·exact ri _ _ li om
     ·rw[if_neg h4];exact ri _ _ oK li
theorem ahU(h1:1<=n){Q:Array Nat->Shared->Prop}(q:∀p',i0 n p'->tR r p' n->Q p' s):(kas_sort n).kasWp cmp Q s:=by
 unfold kas_sort;rw[Dj];refine ahE hr hc (abA _) h1 λm p' a b g ri=>?_;dsimp only
 by_cases h:m<n
 ·rw[if_pos h];exact Vn hr hc q _ _ _ g li (by rw[show max m 1=m by lia];exact ri)
 ·rw[if_neg h];have:m=n:=li;rw[this]at ri;exact q p' g ri
end
end L2
namespace L2
open PySem PySem.Spec PySem.W PyProof.Rows
theorem aiE{h:Heap}{a:Addr}{m m':Str->Option Value}(x:h.Ns a m)(y:h.Ns a m'):m=m':=by
 obtain⟨o,es,ep,e,d,_,f⟩:=x;obtain⟨o',G',Ha,e',d',_,f'⟩:=y;rw[e]at e';cases e';rw[d]at d';cases d'
 funext n
 exact(f n).symm.trans (f' n)
section
variable{X:Cx}{p_:List (Addr×Obj)}{σ:St}{H:Hp}{s:Shared}
theorem Inv.regrown{h':Heap}{m:Str->Option Value}{t':Nat}{d':Drawn}(I:Inv X p_ σ H s)(h1:s.heap.Ns X.env.locals m)(h2:h'.Ns X.env.locals m)(k:∀b o,b≠X.env.locals->s.heap.get? b=some o->h'.get? b=some o) :
  Inv X p_ σ H { s with heap:=h',drawn:=d',toks:=t' }:=by
 refine I.step (g':=s.gens) (d':=d') (ch:=[]) (λ_ z=>nomatch z) (λb o hL _ _ e _=>k b o hL e) (λb o hL _ _ e _=>⟨o.slots,k b o hL e⟩) (λ_ _ _ _ n=>n) (λb o _ e=>?_) (λ_ _ e=>e) (λ_ _ _ e=>e)
  (λb ps e=>⟨#[],by rw[e];simp⟩) (λm' hm=>by rw[aiE hm h1];exact h2) (λb u e=>?_) I.bare
 ·by_cases z:b=X.env.locals
  ·obtain⟨o',_,_,q,_⟩:=h2;exact⟨o',by rw[z];exact q⟩
  ·exact⟨o,k b o z e⟩
 ·refine(I.aG b u e).pG (λd v hd q=>k d v (λz=>?_) q) (λ_ q=>q) λ_ _ q=>q;have fr:=I.free;rw[<-z]at fr;rcases hd with y | y
  ·rw[y,e]at fr;cases fr
  ·rw[y]at fr;cases fr
structure Srt(P:Program)(w:World)(L:Addr)(h:Heap)(vs:List Value)(r:Nat->Int):Prop where
 small:vs.length<64
 inj:∀i j,i<vs.length->j<vs.length->r i=r j->i=j
 ask:2<=vs.length->∃κ,∀(A:Around) (s':Shared),(∀b o,b≠L->h.get? b=some o->s'.heap.get? b=some o)->
  (∀Q:SortKind->Shared->Prop,Q κ s'->wpAny (model P w) A (keyKind' vs.toArray) Q (λ_ _=>False) s')/\
  ∀i j (C:Bool->Shared->Prop),i<vs.length->j<vs.length->i≠j->C (decide (r i<r j)) s'->kas_ask P w A κ vs i j C s'
def LL(ys:List V)(r:Nat->Int)(zs:List V):Prop:=∃p:Array Nat,i0 ys.length p/\tR r p ys.length/\zs=p.toList.map λi=>ys.getD i .aJ
theorem adK{P:Program}{w:World}{A:Around}{E:Value->Shared->Prop}{a:Addr}{vs:List Value}{n:Nat}{R:PySem.Fin->Shared->Prop}(ho:s.heap.get? a=some (seqObj "list" vs.toArray n))(h1:vs.length<2)
  (k:∀h' e,(∀b o,b≠a->s.heap.get? b=some o->h'.get? b=some o)->h'.get? a=some (seqObj "list" vs.toArray e)->R (.done (.ret .none)) { s with heap:=h' }) :
  wpAny (model P w) A (Builtin.«list.sort» ⟨[.ref a],[]⟩) R E s:=by
 have la:=bJ ho;have hn:vs.toArray.size<2:=by rw[dq];exact h1
 have zs:∀m:Nat,m<2->m<=aP:=λm hm=>by rw[lu];exact w5
 obtain⟨e1,q1⟩:∃e1,(s.heap.update a (rG λ_=>(#[]:Array Value))).get? a=some (seqObj "list" #[] e1):=⟨_,Qo ho λ_=>#[]⟩;rw[list_sort_plain];refine aq (listItems_at ho rfl (aq (listUpdate_at ho rfl (aq (seqEpoch_at q1 rfl (aq (wpAny_newTuple (aq (Qy (ng ?_) (bX _))) (zs _ (by simpa using h1)))))) (zs _ (by simpa using h1)) (bX _))));have q3:=bo (seqObj "list" #[] 0) (bo (seqObj "tuple" vs.toArray 0) q1);dsimp only;rw[if_pos hn,if_pos hn];refine aq (aN ?_);rw[StateT.run_pure];refine aq (aN ?_);dsimp only
 have eo:(arrOf (SortSt.mk' general' (vs.toArray.zip vs.toArray) #[] 7 none)).map (·.2)=vs.toArray:=by
  show (vs.toArray.zip vs.toArray).map (·.2)=vs.toArray;apply Array.toList_inj.mp;rw[Array.toList_map,Array.toList_zip];show (vs.zip vs).map Prod.snd=vs;rw[List.map_snd_zip (aF _)]
 rw[eo];refine aq (seqEpoch_at q3 rfl (aq (listUpdate_at q3 rfl ?_ (bX _) (cu (zs _ (by simpa using h1)) (jq _)))));rw[if_neg (by simp)];refine aN (k _ _ (λb o hb e=>?_) (Qo q3 λ_=>vs.toArray));rw[P7 _ _ _ _ hb];exact bo _ (bo _ (by rw[P7 _ _ _ _ hb];exact e))
theorem Rw{ys:List V}{vs:List Value}(rv:Vals ys vs):∀l:List Nat,Vals (l.map λi=>ys.getD i .aJ) (l.map λi=>vs.getD i iI)
 | []=>.nil
 | i::l=>by
  refine .cons ?_ (Rw rv l);dsimp only;rw[pY,pY];cases e:ys[i]? with
  | none=>rw[rv.none_of e];rfl
  | some y=>obtain⟨u,e',q⟩:=rv.get e;rw[e'];exact q
theorem adP(ys:List V):(List.range ys.length).map (λi=>ys.getD i .aJ)=ys:=by
 apply abi
 ·simp
 ·intro i h1 h2;simp[h2]
theorem RO{n:Nat}{p:Array Nat}(g:i0 n p):p.toList.length=n:=by rw[Ay,g.size]
theorem aez{x:Value}{Q:VK}(ao':wpAny (model X.prog X.w) X.A.in1 (collect x) (λvs s1=>∃ys r,Inv X p_ σ H s1/\Vals ys vs/\Srt X.prog X.w X.env.locals s1.heap vs r/\∀l zs,H l=none->LL ys r zs->Q (.ref l) (upd H l (.lst zs))) X.xe s) :
  wpAny (model X.prog X.w) X.A (call (.builtin "sorted") [x]) (EP X p_ σ Q) X.xe s:=by
 refine Calls.call_function_entry kind_sorted plain_sorted entry_sorted (args_sorted1 _) ?_;unfold Builtin.«sorted»;refine aq (aN (a:=()) (aq (iA ao' (λvs s1 hq=>?_) λ_ _ z=>z)));obtain⟨ys,r,I,rv,S,q⟩:=hq;have hlen:=rv.length;have line:vs.length<=aP:=by have:=S.small;rw[lu];exact w5
 refine aq (Qy ?_ line);obtain⟨gQ,g,d,tk,os⟩:=s1;dsimp only at I S ⊢;have q0:(gQ.push (seqObj "list" vs.toArray 0)).get? gQ.objs.size=some (seqObj "list" vs.toArray 0):=gy _ rfl;obtain⟨m,F0⟩:=I.fr;have hL:X.env.locals<gQ.objs.size:=I.lt;have hb:X.base.objs.size<=gQ.objs.size:=cu I.ok.lV I.sz
 have fin:∀(h2:Heap) (c:Nat) (zs:List V) (out:List Value),h2.Ns X.env.locals m->(∀b o,b≠X.env.locals->gQ.get? b=some o->h2.get? b=some o)->h2.get? gQ.objs.size=some (seqObj "list" out.toArray c)->
   Vals zs out->zs.length<=aP->LL ys r zs->EP X p_ σ Q (.ref gQ.objs.size) ⟨h2,g,d,tk,os⟩:=λh2 c zs out n2 k2 e2 v2 l2 so=>by
  have hn:H gQ.objs.size=none:=I.aG.fresh (aF _);have f:=I.fo (b:=gQ.objs.size) (aF _) hn;have J:=Inv.regrown (s:=⟨gQ,g,d,tk,os⟩) (t':=tk) (d':=d) I F0.ns n2 k2;exact⟨.ref gQ.objs.size,_,Inv.adopt (o:=.lst zs) J hn I.sz f.2.1 f.2.2.2.2.1 f.2.2.2.2.2 ⟨l2,out,c,v2,e2⟩,rfl,q _ _ hn so⟩
 refine aq (ng (wK slot_list_sort ⟨_,q0,rfl⟩ entry_list_sort ?_ (args_list_sort _)));have kp:∀b o,gQ.get? b=some o->(gQ.push (seqObj "list" vs.toArray 0)).get? b=some o:=λb o e=>bo _ e
 by_cases h2:vs.length<2
 ·refine adK (s:=⟨gQ.push (seqObj "list" vs.toArray 0),g,d,tk,os⟩) q0 h2 λh' e k' e'=>⟨_,rfl,aN ⟨_,rfl,?_⟩⟩;have ne:∀b o,gQ.get? b=some o->b≠gQ.objs.size:=λb o z=>eO (bJ z);refine fin h' e ys vs ?_ (λb o _ z=>k' b o (ne b o z) (kp b o z)) e' rv w7 ⟨(List.range ys.length).toArray,abA _,λi j oK hj=>absurd oK li,(adP ys).symm⟩;obtain⟨o,es,ep,z,rr⟩:=F0.ns;exact⟨o,es,ep,k' _ _ (ne _ _ z) (kp _ _ z),rr⟩
 ·have h3:2<=vs.length:=li
  refine kat_list_sort (s:=⟨gQ.push (seqObj "list" vs.toArray 0),g,d,tk,os⟩) (h₀:=X.base) (L:=X.env.locals) (m:=m) (news:=rest X.base (gQ.push (seqObj "list" vs.toArray 0)) X.env.locals gQ.objs.size) (F0.push _)
   (λp hp=>agz p (rm.mp hp).1) q0 (tf hL) (aaF hb) T5 h3 S.small λe1 h' F1 N1=>?_
  have keep:∀h3:Heap,Fr X.base X.env.locals h3 m->News X.base X.env.locals h3 (rest X.base (gQ.push (seqObj "list" vs.toArray 0)) X.env.locals gQ.objs.size)->∀b o,b≠X.env.locals->gQ.get? b=some o->h3.get? b=some o:=λh3 F3 N3 b o hb z=>
   acL (λb o z=>kp b o (I.bk b o z)) F3 N3 b o hb (eO (bJ z)) (kp b o z)
  obtain⟨κ,hκ⟩:=S.ask h3;have hk:=hκ X.A.in1.in1 ⟨h',g,d,tk,os⟩ (keep h' F1 λp hp=>N1 p (.tail _ hp));refine hk.1 _ (ahU (r:=r) S.inj (λi j C hi hj ne c=>hk.2 i j C hi hj ne c) li λp' gp ri=>?_);refine KasFin.intro F1 N1 (.head T5) λh4 c F4 N4=>⟨_,rfl,aN ⟨_,rfl,?_⟩⟩;refine fin h4 c (p'.toList.map λi=>ys.getD i .aJ) _ F4.ns (keep h4 F4 λp hp=>N4 p (.tail _ hp)) (N4 _ (.head _)).1 (Rw rv _) ?_ ⟨p',by rw[hlen];exact gp,by rw[hlen];exact ri,rfl⟩;rw[aX,RO gp];exact line
end
end L2
namespace L2
open PySem PySem.Spec PySem.W PyProof.Rows L3
abbrev Lw(X:Cx)(sc:Scope)(qual:Str)(f:Addr)(cd:Value)(L:Addr):Env:=envX qual sc L f cd (eD X.env.cells sc.names [])
def FA(X:Cx)(A:Around)(sc:Scope)(N:List Str)(qual:Str)(f:Addr)(cd:Value)(s:Shared)(H:Hp):Cx:=
 {X with A:=A.deeper (Lw X sc qual f cd s.heap.objs.size),N:=N,s₀:=s,H₀:=H,env:=Lw X sc qual f cd s.heap.objs.size,outer:=X.stack,stack:=Lw X sc qual f cd s.heap.objs.size::X.stack,ex:=[],fn:=λ_=>false,calm:=true,pn:=[],xe:=λ_ _=>False }
section
variable{X:Cx}{p_:List (Addr×Obj)}{σ:St}{H:Hp}{s:Shared}{sc:Scope}{N:List Str}{idx:List Nat}{A:Around}{f:Addr}{cd:Value}{qual px:Str}{k:Nat}{v:V}{u:Value}
theorem aiR(I:Inv X p_ σ H s)(S:dN X sc N idx)(hA:A.frames=some X.stack)(hh:A.handled=none)(hk:N[k]?=some px)(hl:sc.names.lookup px=some .local)(hi:idx.length<=k)(r:RelV v u){h':Heap}{m:Str->Option Value}{t:Nat}
  (lX:h'.Ns s.heap.objs.size m) (hm:m px=some u) (kp:∀b o,s.heap.get? b=some o->h'.get? b=some o) :
  Inv (FA X A sc N qual f cd s H) [] ((lE idx N.length σ).set k (some v)) H { s with heap:=h',toks:=t }:=by
 have nZ:∀x c,(eD X.env.cells sc.names []).lookup x=some c->X.env.cells.lookup x=some c:=DM sc.names [] (λx c e=>by cases e);have has:∀x,(x,nQ)∈sc.names->∃c,(eD X.env.cells sc.names []).lookup x=some c:=λx e=>DN sc.names [] x e (I.ok.has x (.inl (S.frees _ e rfl)));have sM:∀b:Addr,b∉(FA X A sc N qual f cd s H).ex:=λb z=>absurd (show b∈([]:List Addr) from z) (by simp);refine⟨⟨I.ok.mod,S.kind,rfl,rfl,aF _,λx y c e1 e2=>I.ok.inj x y c (nZ x c e1) (nZ y c e2),λx h=>?_,λx c h=>(by cases h),λ_=>hh,aaH hA,.inr ⟨rfl,rfl⟩,λb z=>absurd z (sM b),I.bs,cu I.ok.lV I.sz,λb _ _=>sM b,λb z=>absurd z (sM b),I.stack,I.DW⟩,rfl,I.bare,Un.kept kp,⟨m,lX,λj x w e1 e2 e3=>?_⟩,λx c e=>?_,I.aG.fresh (aF _),λx c e=>I.jy x c (nZ x c e),λp hp=>absurd (show p∈([]:List (Addr×Obj)) from hp) (by simp),I.aG.kept kp,by rw[qa];exact JT S.le⟩
 ·have h2:sc.names.lookup x=some .cell\/sc.names.lookup x=some .free:=h;rcases h2 with z | z
  ·exact absurd rfl (S.Ek _ (PySem.mem_of_lookup z))
  ·exact has x (PySem.mem_of_lookup z)
 ·have CU:N[j]?=some x:=e1
  by_cases hj:j=k
  ·subst hj;rw[hk]at CU;cases CU;have dB:j<(lE idx N.length σ).length:=by rw[JT S.le];exact(eJ.mp hk).1
   rw[mZ dB]at e2;cases e2;exact⟨u,r,.inl ⟨hl,hm⟩⟩
  ·rw[Ax (dU hj)]at e2;obtain⟨i,h1,h2⟩:=JU e2;obtain⟨h3,h4⟩:=S.XX j i x h1 CU;have gf:(x,nQ)∈sc.names:=PySem.mem_of_lookup h4;have tW:X.env.scope.names.lookup x=some .cell:=S.frees _ gf rfl;obtain⟨m',qR,Cs⟩:=I.loc;obtain⟨u',r',l⟩:=Cs i x w h3 h2 (.inr (.inl tW));refine⟨u',r',.inr ⟨.inr h4,?_⟩⟩;rcases l with ⟨q,_⟩ | ⟨_,c,ec,z⟩
   ·have q':X.env.scope.names.lookup x=some .local:=q;rw[tW]at q';cases q'
   ·obtain⟨c',CP⟩:=has x gf;have:=nZ x c' CP;rw[ec]at this;cases this;exact⟨c,CP,z.keeps λb o e=>kp b o e⟩
 ·obtain⟨v',z⟩:=I.cell x c (nZ x c e);exact⟨v',z.keeps λb o e=>kp b o e⟩
theorem agL{params:Arguments}{body:Expr}{pm oO:Value}{c':Addr}{te:TE}{Q:VK}{E:Value->Shared->Prop}(I:Inv X p_ σ H s)(S:dN X sc N idx)(hA:A.frames=some X.stack)(hh:A.handled=none)(anr:A.depth<Dk)(hk:N[k]?=some px)
  (hl:sc.names.lookup px=some .local) (hi:idx.length<=k) (r:RelV v u) (ho:s.heap.get? f=some (kla_obj "<lambda>" qual params body sc (eD X.env.cells sc.names []) pm c' oO)) (gU:s.heap.CodeRec (.ref c') qual)
  (BG:va (kla_fn "<lambda>" qual params body sc (eD X.env.cells sc.names []) pm (.ref c') oO) ⟨[u],[]⟩=pure [(px,u)]) (Pe:sc.isCoroutine=false) (Nv:sc.isGenerator=false)
  (hb:PE (FA X A sc N qual f (.ref c') s H) body te) (q:te ((lE idx N.length σ).set k (some v)) H Q):wpAny (model X.prog X.w) A (call (.ref f) [u]) (EP X p_ σ Q) E s:=by
 refine rE (kla_callFunE anr ho rfl Pe Nv rfl gU ?_);rw[BG];refine aN (wpAny_newFunctionEnv S.Ek (λy hy=>?_) (λh1 lX Gp=>⟨I.nolimit.fresh _ Gp,?_⟩) S.kind)
 ·have e:y=(px,u):=by simpa using hy
  rw[e];exact hl
 ·have kp:∀b o,s.heap.get? b=some o->h1.get? b=some o:=λb o e=>Gp.extBut b o (eO (bJ e)) (bo _ e);have J:=aiR (A:=A) (f:=f) (cd:=.ref c') (qual:=qual) (t:=s.toks+[(px,u)].length) I S hA hh hk hl hi r lX (by simp[pZ]) kp;refine kla_codeExpr (iA (hb [] _ _ H _ J q) (λw s2 hw=>?_) λ_ _ z=>gA z);obtain⟨v2,H2,J2,r2,q2⟩:=hw;exact⟨v2,H2,I.Mu (ch:=[]) (J2.os.trans rfl) J2.base J2.aG J2.bare λb z=>absurd z (by simp),r2,q2⟩
end
def zS(c:Addr)(qual:Str):HO:=.ext λh=>h.CodeRec (.ref c) qual
theorem alr{P:Program}{w:World}{H:Hp}{h:Heap}{c:Addr}{qual:Str}(x:h.CodeRec (.ref c) qual):gE P w H h c (zS c qual):=by
 obtain⟨c0,o,vs,t,e,q,r⟩:=id x;cases e;refine⟨x,⟨o,q⟩,λh1 h2 y k=>?_⟩;obtain⟨c1,o1,B3,t1,e1,q1,r1⟩:=y;cases e1;exact⟨c,o1,B3,t1,rfl,k _ q1,r1⟩
def cJ(P:Addr)(pos:Pos)(qual:Str)(H:Hp):Prop:=∃ps,H P=some (.eZ ps)/\(ps=#[]\/∃c,ps=#[rawInt pos.line,rawInt pos.col,.ref c]/\H c=some (zS c qual))
def vA(P:Addr)(H H':Hp):Prop:=∀b o,b≠P->H b=some o->H' b=some o
theorem vA.refl{P:Addr}(H:Hp):vA P H H:=λ_ _ _ e=>e
def ub(mg:Str->Option Value)(base:Heap):Prop:=∃bm ob,mg "__builtins__" = some (.ref bm)/\bm≠rF/\bm≠fQ/\base.get? bm=some ob/\ob.cls=.type "module"/\ob.dict=some rF/\ob.data=.plain
section
variable{X:Cx}{p_:List (Addr×Obj)}{σ:St}{H:Hp}{s:Shared}
theorem Inv.grow{h':Heap}{P:Addr}{ps more:Array Value}{t':Nat}(I:Inv X p_ σ H s)(hP:H P=some (.eZ ps))(k:∀b o,b≠P->s.heap.get? b=some o->h'.get? b=some o)(e:h'.get? P=some (tabObj (ps++more))) :
  Inv X p_ σ (upd H P (.eZ (ps++more))) { s with heap:=h',toks:=t' }:=by
 have ne:∀b,H b=none->b≠P:=λb n z=>by rw[z,hP]at n;cases n
 refine I.step (g':=s.gens) (d':=s.drawn) (ch:=[]) (λ_ z=>nomatch z) (λb o _ _ _ q n=>k b o (ne b n) q) (λb o _ _ _ q n=>⟨o.slots,k b o (ne b n) q⟩) (λb o _ q n=>by rw[aj (ne b n)];exact n) (λb o _ q=>?_) (λb xs q=>?_) (λb o u q=>?_) (λb qs q=>?_)
  (λm hm=>?_) (λb u q=>?_) I.bare
 ·by_cases z:b=P
  ·exact⟨_,by rw[z];exact e⟩
  ·exact⟨o,k b o z q⟩
 ·rw[aj (gj q hP (by intro z;cases z))];exact q
 ·rw[aj (gj q hP (by intro z;cases z))];exact q
 ·by_cases z:b=P
  ·subst z;rw[hP]at q;cases q;exact⟨more,au⟩
  ·exact⟨#[],by rw[aj z,q];simp⟩
 ·obtain⟨o,es,ep,q,r⟩:=hm;exact⟨o,es,ep,k _ o (ne _ I.free) q,r⟩
 ·by_cases z:b=P
  ·subst z;rw[au]at q;cases q;exact e
  ·rw[aj z]at q;refine(I.aG b u q).pG (λd v hd y=>k d v (λw=>?_) y) (λc y=>?_) λc xs y=>?_
   ·rcases hd with y1 | y1
    ·exact z (y1.symm.trans w)
    ·rw[w,hP]at y1;cases y1
   ·rw[aj (gj y hP (by intro z;cases z))];exact y
   ·rw[aj (gj y hP (by intro z;cases z))];exact y
theorem Inv.E5{f:Addr}{o:Obj}(I:Inv X p_ σ H s)(g:cV X p_ H f)(e:s.heap.get? f=some o)(n:∀v,o.data≠.cell v):Inv X (p_++[(f,o)]) σ H s:=
 I.vh λp hp=>by
  rcases jo.mp hp with z | z
  ·exact I.pin p (gg _ z)
  ·have z':p=(f,o):=by simpa using z
   rw[z'];exact⟨e,g.1,g.2.1,g.2.2.1,n⟩
theorem agK{sc:Scope}{N:List Str}{idx:List Nat}{params:Arguments}{body:Expr}{pos:Pos}{c P:Addr}{E:Value->Shared->Prop}{R:Value->Shared->Prop}(I:Inv X p_ σ H s)(S:dN X sc N idx)(EU:X.env.code=.ref c)(C:CodeHd X.base c P)(B:ub X.mg X.base)
  (Nw:defaultsOf params X.env=([],[])) (h:cJ P pos (X.env.qual ++ "<lambda>") H)
  (k:∀f c' H' pm oO s',Inv X (p_++[(f,kla_obj "<lambda>" (X.env.qual ++ "<lambda>") params body sc (eD X.env.cells sc.names []) pm c' oO)]) σ H' s'->vA P H H'->cJ P pos (X.env.qual ++ "<lambda>") H'->H' c'=some (zS c' (X.env.qual ++ "<lambda>"))->R (.ref f) s') :
  wpAny (model X.prog X.w) X.A (eval (.Lambda params body sc pos) X.env) R E s:=by
 have qU:AQ sc X.env=pure (eD X.env.cells sc.names []):=Ds λp hp e=>I.ok.has p.1 (.inl (S.frees p hp e));obtain⟨ps,hP,mU⟩:=h;have oP:s.heap.get? P=some (tabObj ps):=I.aG P _ hP;obtain⟨bm,ob,b1,b2,b3,b4,b5,b6,b7⟩:=B
 have nP:∀b o,X.base.get? b=some o->b≠P:=λb o e z=>by
  have:=(I.bs b o e).2;rw[z,hP]at this;cases this
 have ZL:s.heap.Ns fQ X.mg:=I.mod.glob.keeps I.bk
 have gP:fQ≠P:=by
  obtain⟨o,es,ep,e,_⟩:=I.mod.glob;exact nP _ _ e
 have hb:s.heap.BuiltinsAt X.mg P:=⟨bm,ob,b1,b2,b3,nP _ _ b4,I.bk _ _ b4,b5,b6,b7⟩;have CC:CodeHd s.heap c P:=C.keeps I.bk;refine kla_eval Nw ?_;rcases mU with rfl | ⟨c0,rfl,Al⟩
 ·refine kla_makeFunction (mg:=X.mg) qU I.ok.glob ZL EU CC oP nS rfl gP hb λc' oO h' tk hx uy dB aoR htb=>?_
  have I1:Inv X p_ σ (upd H P (.eZ (#[] ++ #[rawInt pos.line,rawInt pos.col,.ref c']))) { s with heap:=h'.push (kla_obj "<lambda>" (X.env.qual ++ "<lambda>") params body sc (eD X.env.cells sc.names []) ((X.mg "__name__").getD .none) c' oO),toks:=tk }:=
   I.grow hP (λb o n e=>bo _ (hx b o n e)) (bo _ htb)
  have Y4:P<s.heap.objs.size:=bJ oP;have nc:H c'=none:=I.aG.fresh uy;have cP:c'≠P:=tf (eK Y4 uy);have nc1:upd H P (.eZ (#[] ++ #[rawInt pos.line,rawInt pos.col,.ref c'])) c'=none:=by rw[aj cP];exact nc
  have fc:=I.fo (b:=c') uy nc;have I2:=Inv.adopt (o:=zS c' (X.env.qual ++ "<lambda>")) I1 nc1 (cu I.sz uy) fc.2.1 fc.2.2.2.2.1 fc.2.2.2.2.2 (alr (aoR.push _));have OW:s.heap.objs.size<=h'.objs.size:=cu uy (cO dB);have fP:h'.objs.size≠P:=tf (eK Y4 OW)
  have nf:upd (upd H P (.eZ (#[] ++ #[rawInt pos.line,rawInt pos.col,.ref c']))) c' (zS c' (X.env.qual ++ "<lambda>")) h'.objs.size=none:=by
   rw[aj (tf dB),aj fP];exact I.aG.fresh OW
  have I3:=I2.E5 (I.fo (b:=h'.objs.size) OW nf) (gy _ rfl) (λv z=>by cases z);refine k _ c' _ _ oO _ I3 (λb o n e=>?_) ⟨_,by rw[aj (dU cP),au],.inr ⟨c',by simp,au⟩⟩ au;rw[aj (ba e nc),aj n];exact e
 ·have Pd:s.heap.CodeRec (.ref c0) (X.env.qual ++ "<lambda>"):=(I.aG c0 _ Al).1;have hf:codeAmong pos (#[rawInt pos.line,rawInt pos.col,cb c0]:Array Value).toList=some (.ref c0):=by simp[codeAmong,rawInt]
  refine kla_makeFunctionHit (mg:=X.mg) qU I.ok.glob ZL EU CC oP (show TriplesOk [rawInt pos.line,rawInt pos.col,cb c0] from nS) hf hb λoO h' tk kk uy=>?_;have I1:Inv X p_ σ H { s with heap:=h'.push (kla_obj "<lambda>" (X.env.qual ++ "<lambda>") params body sc (eD X.env.cells sc.names []) ((X.mg "__name__").getD .none) c0 oO),toks:=tk }:=I.kept λb o e=>bo _ (kk b o e);have I3:=I1.E5 (I.fo (b:=h'.objs.size) uy (I.aG.fresh uy)) (gy _ rfl) (λv z=>by cases z);exact k _ c0 _ _ oO _ I3 (vA.refl H) ⟨_,hP,.inr ⟨c0,rfl,Al⟩⟩ Al
end
end L2
namespace L2
open PySem PySem.Spec PySem.W PyProof.Rows
def V'(ts:List Addr)(H:Hp):Prop:=(∀b,H b=none\/(∃o xs,H b=some (.nH o (.lst xs)))\/(b∈ts/\H b=some (.eZ #[])))/\∀b∈ts,H b=some (.eZ #[])
theorem aeZ{P:Program}{w:World}{K:W.Frag}{mg mb:Str->Option Value}{CX:nI}{k:Nat}{fa a:Addr}{fd:aV}{x:Str}{sp:Sp}{s₁:Shared}{vs:List Value}{ns:List Int}{ts:List Addr}
  (KX:K.In s₁.heap) (lX:s₁.heap.Ns fQ mg) (hb:s₁.heap.Ns rF mb) (hbb:∀x:Str,x ≠ "__name__"->mb x=wO x) (ao1:s₁.heap.NoLimit) (hg:s₁.gens=#[]) (wC:ub mg s₁.heap)
  (sQ:∀b∈ts,s₁.heap.get? b=some (tabObj #[])) (Gm:∀b∈ts,isCodeTable s₁.heap b) (Gk:∀b∈ts,K.lookup b=none)
  (ha:s₁.heap.get? a=some { cls:=.type "list",data:=.seq vs.toArray }) (hi:IntsAre vs ns) (hl:ns.length<=aP) (hr:dX k callerA)
  (F:∀base:Heap,K.In base->base.Ns fQ mg->ub mg base->aw P w K mg base CX k fa fd [x] sp) (BG:∀(s:Shared) (u:Value),BindsTo s fd ⟨[u],[]⟩ [(x,u)])
  (nM:∀H:Hp,V' ts H->av K H a (ns.map V.int)->sp [.ref a] H (λv _=>v=.bl true) λ_ _ _=>False)
  (hCX:∀H e s',CX [] H s₁ (λ_ _ _=>False) e s'->False) :
  codeAny (model P w) callerA (.call (.ref fa) ⟨[.ref a],[]⟩) (λr s'=>r=.ok (.ret (.bool true))/\OldK s₁.heap s'.heap/\s'.os=s₁.os/\AllBare s'.gens) s₁:=by
 have rv:=Rx hi;have aoq:=hi.length
 have ant:a∉ts:=λz=>by
  have e:=sQ a z;rw[ha]at e;cases e
 have core:∀H:Hp,V' ts H->av K H a (ns.map V.int)->eX P w H s₁.heap->(∀b,H b≠none->b=a\/b∈ts)->(H a≠none->K.lookup a=none)->
   codeAny (model P w) callerA (.call (.ref fa) ⟨[.ref a],[]⟩) (λr s'=>r=.ok (.ret (.bool true))/\OldK s₁.heap s'.heap/\s'.os=s₁.os/\AllBare s'.gens) s₁:=by
  intro H hO hS aG hA hK;have base_of:∀{b:Addr} {o:Obj},s₁.heap.get? b=some o->H b=none->(si s₁.heap H).get? b=some o:=λe n=>agR e n
  have sM:∀{b:Addr} {o:Obj},s₁.heap.get? b=some o->(∀xs n,o.data≠.seq xs n)->(∀xs,o.data≠.fields xs)->H b=none:=λ{b o} e d1 d2=>by
   cases q:H b with
   | none=>rfl
   | some u=>
    rcases hA b (by rw[q];simp)with z | z
    ·subst z;rw[ha]at e;cases e;exact absurd rfl (d1 _ _)
    ·rw[sQ b z]at e;cases e;exact absurd rfl (d2 _)
  have F7:∀{b:Addr} {m:Str->Option Value},s₁.heap.Ns b m->(si s₁.heap H).Ns b m:=λ{b m} ⟨o,es,ep,e,d,r⟩=>⟨o,es,ep,base_of e (sM e (λ_ _ z=>by rw[d]at z;cases z) λ_ z=>by rw[d]at z;cases z),d,r⟩
  have Z3:K.In (si s₁.heap H):=λb o e=>base_of (KX b o e) (by
   cases q:H b with
   | none=>rfl
   | some u=>
    rcases hA b (by rw[q];simp)with z | z
    ·subst z;rw[hK (by rw[q];simp)]at e;cases e
    ·rw[Gk b z]at e;cases e)
  have hB:ub mg (si s₁.heap H):=by
   obtain⟨bm,ob,b1,b2,b3,b4,b5,b6,b7⟩:=wC;exact⟨bm,ob,b1,b2,b3,base_of b4 (sM b4 (λ_ _ z=>by rw[b7]at z;cases z) λ_ z=>by rw[b7]at z;cases z),b5,b6,b7⟩
  have hM:Mod K mg (si s₁.heap H):=⟨Z3,F7 lX,⟨mb,F7 hb,hbb⟩,let ⟨mc,h1,h2⟩:=ao1;⟨mc,F7 h1,h2⟩⟩;have e0:xG P w K mg (si s₁.heap H) callerA [] s₁ H:=⟨rfl,hM,λb o e=>aiD e,qb (ae5 _ _),trivial,λb hb=>absurd (show b∈([]:List Addr) from hb) (by simp),aG,.of_eq hg⟩;refine wN ((F _ Z3 (F7 lX) hB).run callerA [] s₁ H ⟨[.ref a],[]⟩ [.ref a] [.ref a] _ _ hr e0 (BG s₁ (.ref a)) (.cons rfl .nil) (nM H hO hS)) λr s' h=>?_;cases r with
  | error e=>exact(hCX H e s' h).elim
  | ok fl=>
   cases fl with
   | next=>exact gA h
   | brk=>exact gA h
   | cont=>exact gA h
   | ret u=>
    obtain⟨v,H',os,bare,un,Xi,r',q⟩:=h;have q':v=.bl true:=q;subst q';obtain rfl:u=uV true:=r'
    have old:∀b o,s₁.heap.get? b=some o->asItWas s₁.heap s'.heap b o/\∃o',s'.heap.get? b=some o':=λb o e=>by
     cases q:H b with
     | none=>
      have:=un.keep b o e q (by intro z;exact absurd (show b∈([]:List Addr) from z) (by simp)) (by simp);exact⟨.inl this,_,this⟩
     | some u=>
      rcases hO.1 b with z | ⟨ob,xs,z⟩ | ⟨hm,z⟩
      ·rw[q]at z;cases z
      ·have z2:=un.nA b ob _ z;obtain⟨e1,_⟩:=aG b _ z;obtain⟨e2,_⟩:=Xi b _ z2;rw[e]at e1;cases e1;exact⟨.inl e2,_,e2⟩
      ·obtain⟨more,z2⟩:=un.nv b _ z;have e2:s'.heap.get? b=some (tabObj (#[]++more)):=Xi b _ z2;have e1:=sQ b hm;rw[e]at e1;cases e1;exact⟨.inr (.inl ⟨Gm b hm,rfl,#[],more,rfl,e2⟩),_,e2⟩
    exact⟨rfl,⟨λb o e=>(old b o e).1,λb o e=>(old b o e).2⟩,os,bare⟩
 have tok:∀b,b∈ts->gE P w (λb=>if b=a then none else if b∈ts then some (.eZ #[]) else none) s₁.heap b (.eZ #[]):=λb hb=>sQ b hb;cases hk:K.lookup a with
 | some o=>
  have e:=KX a o hk;rw[ha]at e;cases e;have Gn:∀b∈ts,(λb=>if b∈ts then some (HO.eZ #[]) else none) b=some (.eZ #[]):=λb hb=>if_pos hb;refine core (λb=>if b∈ts then some (.eZ #[]) else none) ⟨λb=>?_,Gn⟩ (.inr ⟨_,vs.toArray,_,hk,rfl,rfl,rfl,by rw[dq,aoq];exact hl,by simpa using rv⟩) (λb u z=>?_) (λb z=>?_) λz=>absurd (if_neg ant) z
  ·by_cases hb:b∈ts
   ·exact .inr (.inr ⟨hb,if_pos hb⟩)
   ·exact .inl (if_neg hb)
  ·by_cases hb:b∈ts
   ·have z':=(if_pos hb).symm.trans z;cases z';exact sQ b hb
   ·have z':=(if_neg hb).symm.trans z;cases z'
  ·by_cases hb:b∈ts
   ·exact .inr hb
   ·exact absurd (if_neg hb) z
 | none=>
  have ne:∀b∈ts,b≠a:=λb hb z=>ant (z ▸ hb);refine core (λb=>if b=a then some (.nH { cls:=.type "list",data:=.seq vs.toArray } (.lst (ns.map V.int))) else if b∈ts then some (.eZ #[]) else none) ⟨λb=>?_,λb hb=>?_⟩ (.inl (.inr ⟨{ cls:=.type "list",data:=.seq vs.toArray },if_pos rfl⟩)) (λb u z=>?_) (λb z=>?_) λ_=>hk
  ·by_cases hb:b=a
   ·exact .inr (.inl ⟨_,_,if_pos hb⟩)
   ·by_cases hc:b∈ts
    ·exact .inr (.inr ⟨hc,by dsimp only;rw[if_neg hb,if_pos hc]⟩)
    ·exact .inl (by dsimp only;rw[if_neg hb,if_neg hc])
  ·dsimp only;rw[if_neg (ne b hb),if_pos hb]
  ·dsimp only at z
   by_cases hb:b=a
   ·rw[if_pos hb]at z;cases z;subst hb;exact⟨ha,by rw[aX];exact hl,vs,_,rv,ha⟩
   ·rw[if_neg hb]at z
    by_cases hc:b∈ts
    ·rw[if_pos hc]at z;cases z;exact sQ b hc
    ·rw[if_neg hc]at z;cases z
  ·by_cases hb:b=a
   ·exact .inl hb
   ·by_cases hc:b∈ts
    ·exact .inr hc
    ·exact absurd (show (if b=a then _ else if b∈ts then _ else none)=none by rw[if_neg hb,if_neg hc]) z
end L2
namespace HT
open PySem PySem.W L2
theorem QB:∀{us:List Value} {xs:List Str},rH us xs=true->Vals (xs.map V.str) us/\us.length=xs.length
 | [],[],_=>⟨.nil,rfl⟩
 | .str y t::us,x::xs,h=>by
  have h:(decide (y=x)&&rH us xs)=true:=h;rw[fJ]at h;obtain⟨a,b⟩:=QB h.2;have e:=of_decide_eq_true h.1;subst e;exact⟨.cons ⟨t,rfl⟩ a,by rw[fG,fG,b]⟩
 | [],_::_,h=>by simp[rH]at h
 | u::us,[],h=>by cases u <;> simp[rH]at h
 | .none::_,_::_,h=>by simp[rH]at h
 | .ref _::_,_::_,h=>by simp[rH]at h
 | .int _ _::_,_::_,h=>by simp[rH]at h
 | .bool _::_,_::_,h=>by simp[rH]at h
theorem ahQ{K:Frag}{a:Addr}{xs:List Str}(h:tupS K a xs=true)(hz:xs.length<=aP)(H:Hp):aE K H a (xs.map V.str):=by
 unfold tupS at h
 split at h
 ·rename_i d ak n sl e
  obtain⟨r,l⟩:=QB h;exact .inr ⟨_,ak,n,e,rfl,rfl,by rw[<-Ay,l];exact hz,r⟩
 ·cases h
end HT
namespace L3
open PySem
def fX(b:Bool)(h:Heap)(it l:Addr)(i:Nat):Prop:=if b=true then h.IsListIter it l i else h.IsTupleIter it l i
def gu(b:Bool)(h:Heap)(l:Addr)(xs:Array Value):Prop:=if b=true then h.IsList l xs else h.IsTuple l xs
theorem fX.ext{b:Bool}{h h':Heap}{it l c:Addr}{i:Nat}(x:fX b h it l i)(e:Iz c h h')(n:it≠c):fX b h' it l i:=by
 cases b with
 | true=>exact(show h.IsListIter it l i from x).extBut e n
 | false=>exact(show h.IsTupleIter it l i from x).extBut e n
theorem gu.ext{b:Bool}{h h':Heap}{l c:Addr}{xs:Array Value}(x:gu b h l xs)(e:Iz c h h')(n:l≠c):gu b h' l xs:=by
 cases b with
 | true=>exact(show h.IsList l xs from x).extBut e n
 | false=>exact(show h.IsTuple l xs from x).extBut e n
theorem fX.at{b:Bool}{h h':Heap}{it l:Addr}{i:Nat}(x:fX b h it l i)(e:∀o,h.get? it=some o->h'.get? it=some o):fX b h' it l i:=by
 cases b with
 | true=>exact(show h.IsListIter it l i from x).at e
 | false=>obtain⟨o,ho,r⟩:=(show h.IsTupleIter it l i from x);exact⟨o,e o ho,r⟩
theorem gu.at{b:Bool}{h h':Heap}{l:Addr}{xs:Array Value}(x:gu b h l xs)(e:∀o,h.get? l=some o->h'.get? l=some o):gu b h' l xs:=by
 cases b with
 | true=>exact(show h.IsList l xs from x).at e
 | false=>obtain⟨o,ho,r⟩:=(show h.IsTuple l xs from x);exact⟨o,e o ho,r⟩
theorem fX.obj{b:Bool}{h:Heap}{it l:Addr}{i:Nat}(x:fX b h it l i):∃o vs,h.get? it=some o/\o.data=.fields vs:=by
 cases b with
 | true=>obtain⟨o,e,_,d⟩:=(show h.IsListIter it l i from x);exact⟨o,_,e,d⟩
 | false=>obtain⟨o,e,_,d⟩:=(show h.IsTupleIter it l i from x);exact⟨o,_,e,d⟩
section
variable{prog:Program}{w:World}{A:Around}{E:Value->Shared->Prop}{s:Shared}
theorem ab2{it t:Addr}{i:Nat}{ak:Array Value}{x:Value}{Q:Value->Shared->Prop}(a1:s.heap.IsTupleIter it t i)(a2:s.heap.IsTuple t ak)(a3:ak[i]?=some x)
  (k:∀h',h'.IsTupleIter it t (i+1)->tj it s.heap h'->Q x { s with heap:=h' }):wpAny (model prog w) A (sV (.ref it)) Q E s:=by
 obtain⟨o,e,c,d⟩:=id a1;obtain⟨ot,et,_,nt,dt⟩:=a2;unfold sV;refine aq (yD (name:=dZ "__next__") a1.typeIs Ho (wK Ho a1.typeIs aaf ?_ (aae _)));show wpAny _ _ (field (.ref it) 0 >>= _) _ _ s;refine aq (iH e d (x:=.ref t) rfl ?_);show wpAny _ _ (if (cb t == iI)=true then _ else _) _ _ s;rw[if_neg (by exact dh)];show wpAny _ _ (field (.ref it) 1 >>= _) _ _ s;refine aq (iH e d (x:=.int i 0) rfl ?_);show wpAny _ _ (Jh (.ref t) >>= _) _ _ s;refine aq (td et dt ?_);simp only[lZ,a3];refine aq (yM e d (by simp) (aN ⟨x,rfl,aN (k _ ⟨_,yF _ e (Hu (yG d _)),(aa4 ..).trans c,?_⟩ (Hw ..))⟩));rw[yG d];simp[rawInt]
theorem acK{it t:Addr}{i:Nat}{ak:Array Value}{Q:Value->Shared->Prop}(hh:A.handled=none)(a1:s.heap.IsTupleIter it t i)(a2:s.heap.IsTuple t ak)(a3:ak[i]?=none)
  (k:∀h' x,Iz it s.heap h'->(∃o,h'.get? x=some o/\o.cls=.type "StopIteration")->E (.ref x) { s with heap:=h' }):wpAny (model prog w) A (sV (.ref it)) Q E s:=by
 obtain⟨o,e,c,d⟩:=id a1;obtain⟨ot,et,_,nt,dt⟩:=a2;unfold sV;refine aq (yD (name:=dZ "__next__") a1.typeIs Ho (wK Ho a1.typeIs aaf ?_ (aae _)));show wpAny _ _ (field (.ref it) 0 >>= _) _ _ s;refine aq (iH e d (x:=.ref t) rfl ?_);show wpAny _ _ (if (cb t == iI)=true then _ else _) _ _ s;rw[if_neg (by exact dh)];show wpAny _ _ (field (.ref it) 1 >>= _) _ _ s;refine aq (iH e d (x:=.int i 0) rfl ?_);show wpAny _ _ (Jh (.ref t) >>= _) _ _ s;refine aq (td et dt ?_);simp only[lZ,a3];refine aq (IL (aq (yM e d (by simp) ?_)));show wpAny _ _ (newExc (.type "StopIteration") [] >>= _) _ _ _;refine aq ?_;unfold newExc newTuple;refine aq (uK ?_ (by size_fits));refine aq (m:=firstArgMember _ _) (wpAny_of_eq (a:=iI) (by first | rfl | (simp only[firstArgMember];rfl)) ?_);refine uK ?_ (by size_fits);unfold raiseNew;refine aq (wpAny_handled ?_)
 first | rw[show A.in1.handled=none from hh] | rw[hh]
 exact aq (aN (wpAny_throw (k _ _ (((Hw ..).extBut.push _).push _) ⟨_,gy _ rfl,rfl⟩)))
theorem next_item{b:Bool}{it l:Addr}{i:Nat}{xs:Array Value}{x:Value}{Q:Value->Shared->Prop}(a1:fX b s.heap it l i)(a2:gu b s.heap l xs)(a3:xs[i]?=some x)
  (k:∀h',fX b h' it l (i+1)->tj it s.heap h'->Q x { s with heap:=h' }):wpAny (model prog w) A (sV (.ref it)) Q E s:=by
 cases b with
 | true=>exact wpAny_nextOf_list_item a1 a2 a3 k
 | false=>exact ab2 a1 a2 a3 k
theorem next_end{b:Bool}{it l:Addr}{i:Nat}{xs:Array Value}{Q:Value->Shared->Prop}(hh:A.handled=none)(a1:fX b s.heap it l i)(a2:gu b s.heap l xs)(a3:xs[i]?=none)
  (k:∀h' x,Iz it s.heap h'->(∃o,h'.get? x=some o/\o.cls=.type "StopIteration")->E (.ref x) { s with heap:=h' }):wpAny (model prog w) A (sV (.ref it)) Q E s:=by
 cases b with
 | true=>exact wpAny_nextOf_list_end hh a1 a2 a3 k
 | false=>exact acK hh a1 a2 a3 k
theorem afL{b1 b2:Bool}{z TI TO i1 i2 l1 l2:Addr}{k1 k2:Nat}{xs ys:Array Value}{x y a b:Value}{Q:Option Value->Shared->Prop}(D:ZipApart z TI TO i1 i2 l1 l2)
  (hz:IsZip s.heap z TI TO .none) (Pj:IsPair s.heap TI (.ref i1) (.ref i2)) (Ph:IsPair s.heap TO a b) (n1:fX b1 s.heap i1 l1 k1) (n2:fX b2 s.heap i2 l2 k2) (m1:gu b1 s.heap l1 xs) (m2:gu b2 s.heap l2 ys)
  (hx:xs[k1]?=some x) (hy:ys[k2]?=some y)
  (hQ:∀h',IsZip h' z TI TO (rawInt s.heap.objs.size)->IsPair h' TO x y->fX b1 h' i1 l1 (k1+1)->fX b2 h' i2 l2 (k2+1)->IsPair h' s.heap.objs.size x y-> (∀c o,c≠z->c≠TO->c≠i1->c≠i2->s.heap.get? c=some o->h'.get? c=some o)->Q (some (.ref s.heap.objs.size)) { s with heap:=h' }):wpAny (model prog w) A (pyNext (.ref z)) Q E s:=by
 have hT:s.TypeIs (.ref z) "zip":=⟨_,hz,rfl⟩;unfold pyNext;refine aq (Dm (yD (name:=dZ "__next__") hT HP (wK HP hT F.entry_zip_next ?_ (F.args_zip_next_1 _))));show wpAny _ _ (field (.ref z) 2 >>= _) _ _ s;refine aq (iH hz rfl (x:=.bool false) rfl ?_);show wpAny _ _ (field (.ref z) 3 >>= _) _ _ s;refine aq (iH hz rfl (x:=.ref TI) rfl (aq (td Pj rfl ?_)));show wpAny _ _ (Hm (.ref z) >>= _) _ _ s;unfold Hm;refine aq (aq (iH hz rfl (x:=.none) rfl (aN ?_)));simp only[if_true];refine aq (IL (aq (iH hz rfl (x:=.ref TO) rfl (aq (Az hz (by simp) λg1 da s1=>?_)))));have da:IsZip g1 z TI TO .ellipsis:=da;simp only[List.zipIdx_cons,List.zipIdx_nil,yL,List.forIn_nil];refine aq (aq (aq (HZ ?_)));show wpAny _ _ (sV (.ref i1) >>= _) _ _ _;refine aq (next_item (n1.ext s1.extBut D.i1z) (m1.ext s1.extBut D.l1z) hx λg2 Y2 s2=>aN ?_);have t2:IsPair g2 TO a b:=s2.extBut _ _ D.TOi1 (s1.extBut _ _ D.TOz Ph);refine aq (td t2 rfl (aq (P2 t2 λg3 t3 s3=>aq (yT (aN ?_)))));have t3:IsPair g3 TO x b:=t3;refine aq (aq (HZ ?_));show wpAny _ _ (sV (.ref i2) >>= _) _ _ _;refine aq (next_item (((n2.ext s1.extBut D.i2z).ext s2.extBut D.i12.symm).ext s3.extBut D.TOi2.symm) (((m2.ext s1.extBut D.l2z).ext s2.extBut D.l2i1).ext s3.extBut D.l2TO) hy λg4 n2' s4=>aN ?_);have t4:IsPair g4 TO x b:=s4.extBut _ _ D.TOi2 t3;refine aq (td t4 rfl (aq (P2 t4 λg5 t5 s5=>aq (yT (aN (aN ?_))))));have t5:IsPair g5 TO x y:=t5;refine aq (td t5 rfl (aq (wpAny_newTuple ?_)));have fu:g5.objs.size=s.heap.objs.size:=by rw[s5.1,s4.1,s3.1,s2.1,s1.1]
 have Zj:IsZip g5 z TI TO .ellipsis:=s5.extBut _ _ D.TOz.symm (s4.extBut _ _ D.i2z.symm (s3.extBut _ _ D.TOz.symm (s2.extBut _ _ D.i1z.symm da)))
 have k5:∀c o,c≠z->c≠TO->c≠i1->c≠i2->s.heap.get? c=some o->g5.get? c=some o:=λc o c1 c2 c3 c4 e=>
  s5.extBut _ _ c2 (s4.extBut _ _ c4 (s3.extBut _ _ c2 (s2.extBut _ _ c3 (s1.extBut _ _ c1 e))))
 have Ce:fX b1 g5 i1 l1 (k1+1):=((Y2.ext s3.extBut D.TOi1.symm).ext s4.extBut D.i12).ext s5.extBut D.TOi1.symm;have n25:fX b2 g5 i2 l2 (k2+1):=n2'.ext s5.extBut D.TOi2.symm;have X9:z<g5.objs.size:=bJ Zj;show wpAny _ _ (aaa (.ref z) (.ref g5.objs.size) >>= _) _ _ _;unfold aaa;have Ox:IsZip (g5.push { cls:=.type "tuple",data:=.seq #[x,y] }) z TI TO .ellipsis:=bo _ Zj;refine aq (aq (Az Ox (by simp) λg7 Ow s7=>?_));have Ow:IsZip g7 z TI TO (rawInt g5.objs.size):=Ow;refine Az Ow (by simp) λg8 Ge s8=>?_;have Ge:IsZip g8 z TI TO (rawInt g5.objs.size):=Ge;have up:∀c o,c≠z->g5.get? c=some o->g8.get? c=some o:=λc o c1 e=>s8.extBut _ _ c1 (s7.extBut _ _ c1 (bo _ e));have ZZ:IsPair g8 g5.objs.size x y:=s8.extBut _ _ (tf X9) (s7.extBut _ _ (tf X9) (gy _ rfl));rw[fu]at Ge ZZ;refine aN ⟨_,rfl,?_⟩;show wpAny _ _ (pure (some (cb g5.objs.size)):Sem (Option Value)) _ _ _;rw[fu];exact aN (hQ g8 Ge (up _ _ D.TOz t5) (Ce.at λo e=>up _ o D.i1z e) (n25.at λo e=>up _ o D.i2z e) ZZ λc o c1 c2 c3 c4 e=>up c o c1 (k5 c o c1 c2 c3 c4 e))
theorem ahM{b1 b2:Bool}{z TI TO i1 i2 l1 l2:Addr}{k1 k2:Nat}{xs ys:Array Value}{a b:Value}{Q:Option Value->Shared->Prop}(hh:A.handled=none)(D:ZipApart z TI TO i1 i2 l1 l2)
  (hz:IsZip s.heap z TI TO .none) (Pj:IsPair s.heap TI (.ref i1) (.ref i2)) (Ph:IsPair s.heap TO a b) (n1:fX b1 s.heap i1 l1 k1) (n2:fX b2 s.heap i2 l2 k2) (m1:gu b1 s.heap l1 xs) (m2:gu b2 s.heap l2 ys)
  (Fj:xs[k1]?=none\/ys[k2]?=none)
  (hQ:∀h',(∀c o,c≠z->c≠TO->c≠i1->c≠i2->s.heap.get? c=some o->h'.get? c=some o)->Q none { s with heap:=h' }):wpAny (model prog w) A (pyNext (.ref z)) Q E s:=by
 have hT:s.TypeIs (.ref z) "zip":=⟨_,hz,rfl⟩
 have fin:∀(h':Heap) (e:Addr),(∀c o,c≠z->c≠TO->c≠i1->c≠i2->s.heap.get? c=some o->h'.get? c=some o)->(∃o,h'.get? e=some o/\o.cls=.type "StopIteration")->
   wpAny (model prog w) A (do if <-AO (.ref e) (.type "StopIteration") then pure none else throw (.ref e)) Q E { s with heap:=h' }:=λh' e hk ⟨o,ho,hc⟩=>
  aq (wpAny_isInstance (T:="StopIteration") (b:=true) ⟨o,ho,hc⟩ isSubtype_stop (aN (hQ _ hk)))
 unfold pyNext;refine aq (Dm (yD (name:=dZ "__next__") hT HP (wK HP hT F.entry_zip_next ?_ (F.args_zip_next_1 _))));show wpAny _ _ (field (.ref z) 2 >>= _) _ _ s;refine aq (iH hz rfl (x:=.bool false) rfl ?_);show wpAny _ _ (field (.ref z) 3 >>= _) _ _ s;refine aq (iH hz rfl (x:=.ref TI) rfl (aq (td Pj rfl ?_)));show wpAny _ _ (Hm (.ref z) >>= _) _ _ s;unfold Hm;refine aq (aq (iH hz rfl (x:=.none) rfl (aN ?_)));simp only[if_true];refine aq (IL (aq (iH hz rfl (x:=.ref TO) rfl (aq (Az hz (by simp) λg1 da s1=>?_)))));have da:IsZip g1 z TI TO .ellipsis:=da;simp only[List.zipIdx_cons,List.zipIdx_nil,yL,List.forIn_nil];refine aq (aq (aq (HZ ?_)));show wpAny _ _ (sV (.ref i1) >>= _) _ _ _;cases hx:xs[k1]? with
 | none=>
  refine aq (next_end hh (n1.ext s1.extBut D.i1z) (m1.ext s1.extBut D.l1z) hx λg2 e s2 he=>?_);obtain⟨oe,yo,wB⟩:=he;have qN:IsZip g2 z TI TO .ellipsis:=s2 _ _ D.i1z.symm da;have Pb:e≠z:=λq=>by subst q;rw[qN]at yo;cases yo;simp at wB
  exact Az qN (by simp) λg3 _ s3=>fin g3 e (λc o c1 _ c3 _ q=>s3.extBut _ _ c1 (s2 _ _ c3 (s1.extBut _ _ c1 q))) ⟨oe,s3.extBut _ _ Pb yo,wB⟩
 | some x=>
  have hy:ys[k2]?=none:=by
   rcases Fj with q | q
   ·rw[hx]at q;cases q
   ·exact q
  refine aq (next_item (n1.ext s1.extBut D.i1z) (m1.ext s1.extBut D.l1z) hx λg2 Y2 s2=>aN ?_);have t2:IsPair g2 TO a b:=s2.extBut _ _ D.TOi1 (s1.extBut _ _ D.TOz Ph);refine aq (td t2 rfl (aq (P2 t2 λg3 t3 s3=>aq (yT (aN ?_)))));refine aq (aq (HZ ?_));show wpAny _ _ (sV (.ref i2) >>= _) _ _ _;refine aq (next_end hh (((n2.ext s1.extBut D.i2z).ext s2.extBut D.i12.symm).ext s3.extBut D.TOi2.symm) (((m2.ext s1.extBut D.l2z).ext s2.extBut D.l2i1).ext s3.extBut D.l2TO) hy λg4 e s4 he=>?_);obtain⟨oe,yo,wB⟩:=he;have Zk:IsZip g4 z TI TO .ellipsis:=s4 _ _ D.i2z.symm (s3.extBut _ _ D.TOz.symm (s2.extBut _ _ D.i1z.symm da));have Pb:e≠z:=λq=>by subst q;rw[Zk]at yo;cases yo;simp at wB
  exact Az Zk (by simp) λg5 _ s5=>fin g5 e (λc o c1 c2 c3 c4 q=>s5.extBut _ _ c1 (s4 _ _ c4 (s3.extBut _ _ c2 (s2.extBut _ _ c3 (s1.extBut _ _ c1 q))))) ⟨oe,s5.extBut _ _ Pb yo,wB⟩
abbrev rZ(b:Bool)(l:Addr):Obj:={ cls:=.type (if b=true then "list_iterator" else "tuple_iterator"),data:=.fields #[.ref l,.int 0 0] }
theorem DJ{b:Bool}{l:Addr}{xs:Array Value}{Q:Value->Shared->Prop}(m:gu b s.heap l xs)(k:Q (.ref s.heap.objs.size) { s with heap:=s.heap.push (rZ b l) }):wpAny (model prog w) A (pyIter (.ref l)) Q E s:=by
 cases b with
 | true=>exact Hz m k
 | false=>exact wpAny_pyIter_tuple m k
theorem SX{b:Bool}{h:Heap}{a l:Addr}(e:h.get? a=some (rZ b l)):fX b h a l 0:=by
 cases b with
 | true=>exact⟨_,e,rfl,rfl⟩
 | false=>exact⟨_,e,rfl,rfl⟩
end
abbrev Ft(b1:Bool)(h:Heap)(l1:Addr):Heap:=h.push (rZ b1 l1)
abbrev Fs(b1 b2:Bool)(h:Heap)(l1 l2:Addr):Heap:=(Ft b1 h l1).push (rZ b2 l2)
abbrev Fq(b1 b2:Bool)(h:Heap)(l1 l2:Addr):Heap:=(Fs b1 b2 h l1 l2).push { cls:=.type "tuple",data:=.seq #[.ref h.objs.size,.ref (Ft b1 h l1).objs.size] }
abbrev Fp(b1 b2:Bool)(h:Heap)(l1 l2:Addr):Heap:=(Fq b1 b2 h l1 l2).push { cls:=.type "tuple",data:=.seq #[.none,.none] }
abbrev zO(b1 b2:Bool)(h:Heap)(l1 l2:Addr):Heap:=(Fp b1 b2 h l1 l2).push { cls:=.type "zip",data:=.fields #[.none,.bool false,.bool false,.ref (Fs b1 b2 h l1 l2).objs.size,.ref (Fq b1 b2 h l1 l2).objs.size] }
theorem gu.push{b:Bool}{h:Heap}{l:Addr}{xs:Array Value}(x:gu b h l xs)(o:Obj):gu b (h.push o) l xs:=x.at λ_ e=>bo _ e
theorem ahL(b1 b2:Bool)(l1 l2:Addr)(xs ys:Array Value) :
  Meets (Builtin.«zip.__new__» ⟨[.type "zip",.ref l1,.ref l2],[]⟩) (λ_ R s=>gu b1 s.heap l1 xs/\gu b2 s.heap l2 ys/\R (.ok (.ret (.ref (Fp b1 b2 s.heap l1 l2).objs.size))) { s with heap:=zO b1 b2 s.heap l1 l2 }):=
 .of_wp λprog w A R s h=>by
  obtain⟨hp,g,d,tk,os⟩:=s;obtain⟨m1,m2,h⟩:=h;have aoL:=sub_zip;have M1:gu b1 (QZ ⟨hp,g,d,tk,os⟩) l1 xs:=m1;have M2:gu b2 (QZ ⟨hp.push (rZ b1 l1),g,d,tk,os⟩) l2 ys:=gu.push m2 _
  wp_walk using DJ M1,DJ M2
  exact⟨_,rfl,h⟩
section
variable{prog:Program}{w:World}{A:Around}{E:Value->Shared->Prop}{s:Shared}
theorem afM{b1 b2:Bool}{l1 l2:Addr}{xs ys:Array Value}{Q:Value->Shared->Prop}(m1:gu b1 s.heap l1 xs)(m2:gu b2 s.heap l2 ys)
  (k:∀h',IsZip h' (s.heap.objs.size+4) (s.heap.objs.size+2) (s.heap.objs.size+3) .none->IsPair h' (s.heap.objs.size+2) (.ref s.heap.objs.size) (.ref (s.heap.objs.size+1))->
   IsPair h' (s.heap.objs.size+3) .none .none->fX b1 h' s.heap.objs.size l1 0->fX b2 h' (s.heap.objs.size+1) l2 0->(∀c o,s.heap.get? c=some o->h'.get? c=some o)->Q (.ref (s.heap.objs.size+4)) { s with heap:=h' }) :
  wpAny (model prog w) A (call (.type "zip") [.ref l1,.ref l2]) Q E s:=by
 refine callType_new F.called_zip qc (F.typeCall_zip_2 _ _) (F.newCall_zip_2 _ _) (λobj=>F.args_object_init_3 obj _ _) F.entry_zip_new (ahL b1 b2 l1 l2 xs ys) ⟨m1,m2,?_⟩;have z1:(Ft b1 s.heap l1).objs.size=s.heap.objs.size+1:=m8 ..;have z2:(Fs b1 b2 s.heap l1 l2).objs.size=s.heap.objs.size+2:=by rw[m8,z1]
 have z3:(Fq b1 b2 s.heap l1 l2).objs.size=s.heap.objs.size+3:=by rw[m8,z2]
 have z4:(Fp b1 b2 s.heap l1 l2).objs.size=s.heap.objs.size+4:=by rw[m8,z3]
 have q5:(zO b1 b2 s.heap l1 l2).get? (Fp b1 b2 s.heap l1 l2).objs.size=some _:=gy _ rfl;have q4:(zO b1 b2 s.heap l1 l2).get? (Fq b1 b2 s.heap l1 l2).objs.size=some _:=bo _ (gy _ rfl);have q3:(zO b1 b2 s.heap l1 l2).get? (Fs b1 b2 s.heap l1 l2).objs.size=some _:=bo _ (bo _ (gy _ rfl));have q2:(zO b1 b2 s.heap l1 l2).get? (Ft b1 s.heap l1).objs.size=some _:=bo _ (bo _ (bo _ (gy _ rfl)));have q1:(zO b1 b2 s.heap l1 l2).get? s.heap.objs.size=some _:=bo _ (bo _ (bo _ (bo _ (gy _ rfl))));show _/\_;rw[z2,z3,z4]at q5;rw[z1,z2]at q3;rw[z3]at q4;rw[z1]at q2;rw[z4];exact⟨⟨_,q5,rfl⟩,k _ q5 q3 q4 (SX q1) (SX q2) λc o x=>bo _ (bo _ (bo _ (bo _ (bo _ x))))⟩
end
end L3
namespace L3
open PySem
open AutoSeq1 (wpAny_loadPart')
theorem afy(l:Addr)(ak:Array Value)(n:Nat)(Py:Option Addr)(sl:Array (Option Value)) :
  Meets (Builtin.«enumerate.__new__» ⟨[.type "enumerate",.ref l],[]⟩) (λ_ R s=>s.heap.get? l=some { cls:=.type "tuple",dict:=Py,data:=.seq ak n,slots:=sl }/\
   R (.ok (.ret (.ref (s.heap.push (rZ false l)).objs.size))) { s with heap:=(s.heap.push (rZ false l)).push { cls:=.type "enumerate",data:=.fields #[.none,.bool false,.ref s.heap.objs.size,rawInt 0,.none,.none] } }):=
 .of_wp λprog w A R s h=>by
  obtain⟨hp,g,d,tk,os⟩:=s;obtain⟨q,h⟩:=h;have aoL:=sub_enumerate;have M:gu false (QZ ⟨hp,g,d,tk,os⟩) l ak:=⟨_,q,rfl,n,rfl⟩
  wp_walk using Qn q
  refine wpAny_stack_any λst=>aN ?_
  split
  ·rename_i c _ _ _ _ _
   cases (c == oY "enumerate") <;> (wp_walk using Qn q,DJ M;exact⟨_,rfl,h⟩)
  ·wp_walk using Qn q,DJ M
   exact⟨_,rfl,h⟩
section
variable{prog:Program}{w:World}{A:Around}{E:Value->Shared->Prop}{s:Shared}
theorem afz{b:Bool}{l:Addr}{xs:Array Value}{Q:Value->Shared->Prop}(m:gu b s.heap l xs)
  (k:∀h',IsEnum h' (s.heap.objs.size+1) s.heap.objs.size 0 .none->fX b h' s.heap.objs.size l 0->(∀c o,s.heap.get? c=some o->h'.get? c=some o)->Q (.ref (s.heap.objs.size+1)) { s with heap:=h' }) :
  wpAny (model prog w) A (call (.type "enumerate") [.ref l]) Q E s:=by
 cases b with
 | true=>exact call_enumerate_list (show s.heap.IsList l xs from m) λh' a1 a2 _ a4=>k h' a1 a2 a4
 | false=>
  obtain⟨⟨c,Py,dt,sl⟩,hl,hc,n,hd⟩:=(show s.heap.IsTuple l xs from m);have hc:c=.type "tuple":=hc;have hd:dt=.seq xs n:=hd;subst hc hd;refine callType_new F.called_enumerate qc (F.typeCall_enumerate_1 _) (F.newCall_enumerate_1 _) (λobj=>F.args_object_init_2 obj _) F.entry_enumerate_new (afy l xs n Py sl) ⟨hl,?_⟩;have hz:(s.heap.push (rZ false l)).objs.size=s.heap.objs.size+1:=m8 ..
  have he:IsEnum ((s.heap.push (rZ false l)).push { cls:=.type "enumerate",data:=.fields #[.none,.bool false,.ref s.heap.objs.size,rawInt 0,.none,.none] }) (s.heap.objs.size+1) s.heap.objs.size 0 .none:=by
   have q:=gy (s.heap.push (rZ false l)) (o:={ cls:=.type "enumerate",data:=.fields #[.none,.bool false,.ref s.heap.objs.size,rawInt 0,.none,.none] }) rfl;rw[hz]at q;exact q
  show _/\_;rw[hz];exact⟨⟨_,he,rfl⟩,k _ he ⟨_,bo _ (gy _ rfl),rfl,rfl⟩ λc o x=>bo _ (bo _ x)⟩
theorem afA{b:Bool}(hh:A.handled=none)(it l:Addr)(i8:l≠it)(xs:Array Value):Draws prog w A it [it,l] xs.size (λi v=>xs[i]?=some v) (λi h=>fX b h it l i/\gu b h l xs) where
 live:=λ_ _ st=>let ⟨o,_,e,_⟩:=st.1.obj;⟨o,e⟩
 frame:=λ_ _ _ st hk=>⟨st.1.at λo e=>hk it (by simp) o e,st.2.at λo e=>hk l (by simp) o e⟩
 item:=λi s Q E hi st hQ=>next_item st.1 st.2 (x:=xs[i]) (by simp[hi]) λh' n' sb=>hQ _ h' s.toks (by simp[hi]) ⟨n',st.2.ext sb.extBut i8⟩ sb
 done:=λs Q E st hE=>next_end hh st.1 st.2 (by simp) hE
end
end L3
namespace L2
open PySem PySem.Spec PyProof.Rows L3
theorem Inv.JY{X:Cx}{p_:List (Addr×Obj)}{σ:St}{H:Hp}{s:Shared}{h':Heap}{t':Nat}{ch:List Addr}(I:Inv X p_ σ H s)(k:∀b o,b∉ch->s.heap.get? b=some o->h'.get? b=some o)
  (hc:∀b∈ch,cV X p_ H b):Inv X p_ σ H { s with heap:=h',toks:=t' }:=by
 have wm:∀b u,H b=some u->b∉ch:=λb u e z=>by rw[(hc b z).1]at e;cases e
 refine I.step (g':=s.gens) (d':=s.drawn) (ch:=ch) (λb hb=>⟨(hc b hb).2.2.2.1,(hc b hb).2.1,(hc b hb).2.2.2.2.1,(hc b hb).2.2.2.2.2⟩) (λb o _ _ z e _=>k b o z e) (λb o _ _ z e _=>⟨o.slots,k b o z e⟩) (λ_ _ _ _ n=>n)
  (λb o z e=>⟨o,k b o z e⟩) (λ_ _ e=>e) (λ_ _ _ e=>e) (λb ps e=>⟨#[],by rw[e];simp⟩) (λm hm=>?_) (λb u e=>?_) I.bare
 ·refine eV hm λo es ep ho r=>?_;exact⟨o,es,ep,(k _ o (λz=>(hc _ z).2.1 rfl) ho),r⟩
 ·refine(I.aG b u e).pG (λc v hq q=>k c v ?_ q) (λ_ q=>q) λ_ _ q=>q;rcases hq with z | z
  ·rw[z];exact wm b u e
  ·exact wm c _ z
def Sq(b:Bool)(K:W.Frag)(H:Hp)(a:Addr)(xs:List V):Prop:=if b=true then av K H a xs else aE K H a xs
theorem rX{X:Cx}{p_:List (Addr×Obj)}{σ:St}{H:Hp}{s:Shared}{b:Bool}{a:Addr}{xs:List V}(I:Inv X p_ σ H s)(h:Sq b X.K H a xs):∃ak:List Value,Vals xs ak/\gu b s.heap a ak.toArray/\xs.length<=aP:=by
 cases b with
 | true=>
  refine aL (I.list h) λak r p z=>?_;exact c8 ak r p.isList z
 | false=>
  refine aL (I.tuple h) λak r p z=>?_;exact c8 ak r p z
theorem KP{X:Cx}{p_:List (Addr×Obj)}{σ:St}{H:Hp}{s:Shared}{b:Bool}{a:Addr}{xs ys:List V}(I:Inv X p_ σ H s)(h:Sq b X.K H a xs)(h':Sq b X.K H a ys):xs=ys:=by
 cases b with
 | true=>exact I.SU h h'
 | false=>exact I.Rz h h'
theorem LZ{X:Cx}{p_:List (Addr×Obj)}{σ:St}{H:Hp}{s:Shared}{b:Bool}{a:Addr}{xs:List V}(I:Inv X p_ σ H s)(h:Sq b X.K H a xs):a<s.heap.objs.size:=by
 refine aL (rX I h) λak r p z=>?_;cases b with
 | true=>obtain⟨o,e,_⟩:=(show s.heap.IsList a ak.toArray from p);exact bJ e
 | false=>obtain⟨o,e,_⟩:=(show s.heap.IsTuple a ak.toArray from p);exact bJ e
def X1(b1 b2:Bool)(K:W.Frag)(l1 l2:Addr):It:=
 ⟨λi H=>∃xs ys x y,Sq b1 K H l1 xs/\Sq b2 K H l2 ys/\xs[i]?=some x/\ys[i]?=some y,λi H v H'=>∃p x y,H p=none/\v=.ref p/\H'=upd H p (.tup [x,y])/\∀xs ys,Sq b1 K H l1 xs->Sq b2 K H l2 ys->xs[i]?=some x/\ys[i]?=some y,λi H=>∃xs ys,Sq b1 K H l1 xs/\Sq b2 K H l2 ys/\(xs.length<=i\/ys.length<=i)⟩
theorem yV{b:Bool}{h:Heap}{it l:Addr}{i:Nat}(x:fX b h it l i):∃o,h.get? it=some o/\∀v,o.data≠.cell v:=by
 refine a9 x.obj λo vs e d=>?_;exact ar o e (λv z=>by rw[d]at z;cases z)
theorem afO{P:Program}{w:World}{K:W.Frag}{es:List Expr}{x1:Nat}{pos:Pos}{b1 b2:Bool}{z TI TO i1 i2 l1 l2:Addr}(D:ZipApart z TI TO i1 i2 l1 l2) :
  Turn P w K (.Tuple es x1 pos) (X1 b1 b2 K l1 l2) [z,TI,TO,i1,i2] z (λi h=>IsZip h z TI TO .none/\IsPair h TI (.ref i1) (.ref i2)/\(∃a b,IsPair h TO a b)/\fX b1 h i1 l1 i/\fX b2 h i2 l2 i) where
 mem:=by simp
 obj:=λi h ⟨a1,a2,⟨a,b,a3⟩,a4,a5⟩ c hc=>by
  simp only[bq,rj,or_false]at hc;rcases hc with rfl | rfl | rfl | rfl | rfl
  ·exact ar _ a1 (λv z=>by cases z)
  ·exact ar _ a2 (λv z=>by cases z)
  ·exact ar _ a3 (λv z=>by cases z)
  ·exact yV a4
  ·exact yV a5
 keep:=λi h h' ⟨a1,a2,⟨a,b,a3⟩,a4,a5⟩ k=>⟨k z (by simp) _ a1,k TI (by simp) _ a2,⟨a,b,k TO (by simp) _ a3⟩,a4.at λo e=>k i1 (by simp) o e,a5.at λo e=>k i2 (by simp) o e⟩
 item:=by
  intro X hP hw hK hc i p_ s σ H E I hf ⟨a1,a2,⟨a,b,a3⟩,a4,a5⟩ hg;subst hP hw hK;obtain⟨xs,ys,x,y,q1,q2,hx,hy⟩:=hg;refine aL (rX I q1) λB3 r1 m1 _=>?_;refine aL (rX I q2) λYd r2 m2 _=>?_;refine ah (r1.get hx) λu hu ru=>?_;refine ah (r2.get hy) λv hv rv=>?_;refine afL D a1 a2 a3 a4 a5 m1 m2 (x:=u) (y:=v) (by simpa using hu) (by simpa using hv) λh' c1 c2 c3 c4 c5 kk=>?_;have hp:H s.heap.objs.size=none:=I.aG.fresh (aF _)
  have lts:∀c∈[z,TI,TO,i1,i2],c<s.heap.objs.size:=λc hc=>by
   simp only[bq,rj,or_false]at hc;rcases hc with rfl | rfl | rfl | rfl | rfl
   ·exact bJ a1
   ·exact bJ a2
   ·exact bJ a3
   ·obtain⟨o,e,_⟩:=yV a4;exact bJ e
   ·obtain⟨o,e,_⟩:=yV a5;exact bJ e
  refine ar _ rfl (wpAny_letOwnedTupleGo_zip c1 λuz d1 sb=>?_);have sz:∀c∈[z,TI,TO,i1,i2],c≠s.heap.objs.size:=λc hc=>eO (lts c hc)
  have k2:∀c o,c∉[z,TO,i1,i2]->s.heap.get? c=some o->uz.get? c=some o:=λc o hc e=>by
   simp only[bq,rj,or_false,not_or]at hc;exact(sb.2 c hc.1).trans (kk c o hc.1 hc.2.1 hc.2.2.1 hc.2.2.2 e)
  have fz:∀c∈[z,TO,i1,i2],cV X p_ H c:=λc hc=>hf c (by
   simp only[bq,rj,or_false]at hc ⊢;rcases hc with rfl | rfl | rfl | rfl <;> simp)
  have I1:Inv X p_ σ H { s with heap:=uz }:=Inv.JY (t':=s.toks) I k2 fz;have pT:IsPair uz s.heap.objs.size u v:=(sb.2 _ (dU (sz z (by simp)))).trans c5;have fT:cV X p_ H s.heap.objs.size:=I.fo (aF _) hp;have I2:Inv X p_ σ (upd H s.heap.objs.size (.tup [x,y])) { s with heap:=uz }:=Inv.adopt I1 hp I.sz fT.2.1 fT.2.2.2.2.1 fT.2.2.2.2.2 ⟨by show 2<=aP;decide,[u,v],.cons ru (.cons rv .nil),⟨_,pT,rfl,_,rfl⟩⟩;refine⟨.ref s.heap.objs.size,_,I2,rfl,⟨_,x,y,hp,rfl,rfl,λxs' ys' p1 p2=>⟨by rw[KP I p1 q1];exact hx,by rw[KP I p2 q2];exact hy⟩⟩,⟨d1,(sb.2 _ D.TIz).trans (kk _ _ D.TIz D.TITO D.TIi1 D.TIi2 a2),⟨u,v,(sb.2 _ D.TOz).trans c2⟩,c3.at λo e=>(sb.2 _ D.i1z).trans e,c4.at λo e=>(sb.2 _ D.i2z).trans e⟩,λc hc=>?_⟩;rw[aj (sz c hc)];exact(hf c hc).1
 done:=by
  intro X hP hw hK hc i p_ s σ H E I hf ⟨a1,a2,⟨a,b,a3⟩,a4,a5⟩ hg;subst hP hw hK;refine cG hg λxs ys q1 q2 Fj=>?_;refine aL (rX I q1) λB3 r1 m1 _=>?_;refine aL (rX I q2) λYd r2 m2 _=>?_;have l1':=r1.length;have l2':=r2.length;refine ahM (I.ok.hd hc) D a1 a2 a3 a4 a5 m1 m2 (by rcases Fj with q | q;exact .inl (by simp;lia);exact .inr (by simp;lia)) λh' kk=>⟨rfl,?_⟩
  refine Inv.JY (t':=s.toks) (ch:=[z,TO,i1,i2]) I (λc o hc e=>?_) λc hc=>hf c (by
   simp only[bq,rj,or_false]at hc ⊢;rcases hc with rfl | rfl | rfl | rfl <;> simp)
  simp only[bq,rj,or_false,not_or]at hc;exact kk c o hc.1 hc.2.1 hc.2.2.1 hc.2.2.2 e
 self:=λ_ _ _ _ _ st h=>wpAny_pyIter_zip st.1 h
section
variable{X:Cx}{pos:Pos}
def aoc(b1 b2:Bool)(K:W.Frag)(ta:TA):TI:=λσ H R=>ta σ H λvs H1=>∃l1 l2 xs ys,vs=[.ref l1,.ref l2]/\Sq b1 K H1 l1 xs/\Sq b2 K H1 l2 ys/\R (X1 b1 b2 K l1 l2) H1
theorem akr{b1 b2:Bool}{a b:Expr}{ta:TA}{p:Pos}{es:List Expr}{x1:Nat}{xI:Pos}(hg:Gl X "zip")(hm:X.mg "zip" = none)(ha:PA X [a,b] ta)
  (hs:cg [a,b] X.env=[(false,eval a X.env),(false,eval b X.env)]:=by rfl) (mQ:cg [b] X.env=[(false,eval b X.env)]:=by rfl):PI X (.Tuple es x1 xI) (.Call (.Name "zip" p) [a,b] [] pos) (aoc b1 b2 X.K ta):=by
 intro p_ s σ H R I h;refine Call_ (vp I hg hm boot_zip (C0 (aO (ha pos p_ s σ H _ I h) λus s1 ⟨vs,H1,I1,r1,q1⟩=>?_) (by rw[hs,mQ]) (by rw[mQ];rfl)));obtain⟨l1,l2,xs,ys,e,q1,q2,q⟩:=q1;subst e;cases r1 with
 | cons r rr=>
  cases rr with
  | cons r' rr=>
   cases rr;cases r;cases r';obtain⟨B3,_,m1,_⟩:=rX I1 q1;obtain⟨Yd,_,m2,_⟩:=rX I1 q2;have n1:=LZ I1 q1;have n2:=LZ I1 q2;refine afM m1 m2 λh' c1 c2 c3 c4 c5 kk=>wpAny_pyIter_zip c1 ?_;refine oW _ _ _ _ H1 rfl (I1.kept (t':=s1.toks) kk) (afO (D:=zipApart_new n1 n2)) ⟨c1,c2,⟨_,_,c3⟩,c4,c5⟩ (λc hc=>?_) q
   have qW:s1.heap.objs.size<=c:=by
    simp only[bq,rj,or_false]at hc;rcases hc with rfl | rfl | rfl | rfl | rfl <;> lia
   exact I1.fo qW (I1.aG.fresh qW)
def X5(b:Bool)(K:W.Frag)(l:Addr):It:=
 ⟨λi H=>∃xs x,Sq b K H l xs/\xs[i]?=some x,λi H v H'=>∃p x,H p=none/\v=.ref p/\H'=upd H p (.tup [.int i,x])/\∀xs,Sq b K H l xs->xs[i]?=some x,λi H=>∃xs,Sq b K H l xs/\xs.length<=i⟩
end
theorem aeu{P:Program}{w:World}{K:W.Frag}{es:List Expr}{x1:Nat}{pos:Pos}{b:Bool}{e it l:Addr}(n1:e≠it)(n2:l≠it)(n3:e≠l) :
  Turn P w K (.Tuple es x1 pos) (X5 b K l) [e,it] e (λi h=>(∃old,IsEnum h e it i old)/\fX b h it l i) where
 mem:=by simp
 obj:=λi h ⟨⟨old,a1⟩,a2⟩ c hc=>by
  simp only[bq,rj,or_false]at hc;rcases hc with rfl | rfl
  ·exact ar _ a1 (λv z=>by cases z)
  ·exact yV a2
 keep:=λi h h' ⟨⟨old,a1⟩,a2⟩ k=>⟨⟨old,k e (by simp) _ a1⟩,a2.at λo q=>k it (by simp) o q⟩
 item:=by
  intro X hP hw hK hc i p_ s σ H E I hf ⟨⟨old,a1⟩,a2⟩ hg;subst hP hw hK;refine a9 hg λxs x q1 hx=>?_;refine aL (rX I q1) λvs r1 m1 _=>?_;refine ah (r1.get hx) λu hu ru=>?_
  have OS:i<vs.toArray.size:=by
   have:=(eJ.mp hu).1;simpa using this
  have hh:X.A.in1.handled=none:=I.ok.hd hc;refine wpAny_pyNext_enum_itemD (n:=vs.toArray.size) (afA (b:=b) hh it l n2 vs.toArray) a1 ⟨a2,m1⟩ OS n1 (by simp;exact⟨n1,n3⟩) λy h' tk hy c1 c2 c3 c4 kk=>?_
  have ey:y=u:=by
   have:vs[i]?=some y:=by simpa using hy
   rw[hu]at this;exact(iz this).symm
  subst ey;have hp:H s.heap.objs.size=none:=I.aG.fresh (aF _);have eS:e≠s.heap.objs.size:=eO (bJ a1)
  have iS:it≠s.heap.objs.size:=by
   refine ah (yV a2) λo q _=>?_;exact eO (bJ q)
  refine ar _ rfl (wpAny_letOwnedTupleGo_enum c1 λuz d1 sb=>?_)
  have k2:∀c o,c∉[e,it]->s.heap.get? c=some o->uz.get? c=some o:=λc o hc q=>by
   simp only[bq,rj,or_false,not_or]at hc;exact(sb.2 c hc.1).trans (kk c o hc.1 hc.2 q)
  have I1:Inv X p_ σ H { s with heap:=uz,toks:=tk+1 }:=Inv.JY I k2 hf;have pT:uz.get? s.heap.objs.size=some { cls:=.type "tuple",data:=.seq #[.int i tk,y] }:=(sb.2 _ (dU eS)).trans c3;have fT:cV X p_ H s.heap.objs.size:=I.fo (aF _) hp
  have I2:Inv X p_ σ (upd H s.heap.objs.size (.tup [.int i,x])) { s with heap:=uz,toks:=tk+1 }:=Inv.adopt I1 hp I.sz fT.2.1 fT.2.2.2.2.1 fT.2.2.2.2.2
   ⟨by show 2<=aP;decide,[.int i tk,y],.cons ⟨_,rfl⟩ (.cons ru .nil),⟨_,pT,rfl,_,rfl⟩⟩
  refine⟨(.ref s.heap.objs.size),_,I2,rfl,⟨_,x,hp,rfl,rfl,λxs' p1=>by rw[KP I p1 q1];exact hx⟩,⟨⟨_,by simpa using d1⟩,c2.1.at λo q=>(sb.2 _ (dU n1)).trans q⟩,(λc hc=>?_)⟩;simp only[bq,rj,or_false]at hc;rcases hc with rfl | rfl
  ·rw[aj eS];exact(hf _ (by simp)).1
  ·rw[aj iS];exact(hf _ (by simp)).1
 done:=by
  intro X hP hw hK hc i p_ s σ H E I hf ⟨⟨old,a1⟩,a2⟩ hg;subst hP hw hK;refine ah hg λxs q1 Fj=>?_;refine aL (rX I q1) λvs r1 m1 _=>?_;have hl:=r1.length;have hT:s.TypeIs (.ref e) "enumerate":=⟨_,a1,rfl⟩;unfold pyNext;refine aq (Dm (yD (name:=dZ "__next__") hT aaB (wK aaB hT F.entry_enumerate_next ?_ (F.args_enumerate_next_1 _))));show wpAny _ _ (field (.ref e) 2 >>= _) _ _ s;refine aq (iH a1 rfl (x:=.ref it) rfl (aq (next_end (show X.A.in1.handled=none from I.ok.hd hc) a2 m1 (by simp;lia) λh' y hk ⟨o,ho,yp⟩=>?_)));refine aq (wpAny_isInstance (T:="StopIteration") (b:=true) ⟨o,ho,yp⟩ isSubtype_stop (aN ⟨rfl,?_⟩));refine I.turned (t':=s.toks) (it:=it) (λc q hc z=>hk c q hc z) (hf it (by simp)).1 (hf it (by simp)).2.1 (hf it (by simp)).2.2.2.1 (hf it (by simp)).2.2.2.2.1 (hf it (by simp)).2.2.2.2.2
 self:=λ_ _ _ _ _ st h=>let ⟨_,a1⟩:=st.1;wpAny_pyIter_enum a1 h
section
variable{X:Cx}{pos:Pos}
def amG(b:Bool)(K:W.Frag)(ta:TA):TI:=λσ H R=>ta σ H λvs H1=>∃l xs,vs=[.ref l]/\Sq b K H1 l xs/\R (X5 b K l) H1
theorem D2{b:Bool}{a:Expr}{ta:TA}{p:Pos}{es:List Expr}{x1:Nat}{xI:Pos}(hg:Gl X "enumerate")(hm:X.mg "enumerate" = none)(ha:PA X [a] ta)
  (hs:cg [a] X.env=[(false,eval a X.env)]:=by rfl):PI X (.Tuple es x1 xI) (.Call (.Name "enumerate" p) [a] [] pos) (amG b X.K ta):=by
 intro p_ s σ H R I h;refine Call_ (vp I hg hm boot_enumerate (C0 (aO (ha pos p_ s σ H _ I h) λus s1 ⟨vs,H1,I1,r1,q1⟩=>?_) hs rfl));obtain⟨l,xs,e,q1,q⟩:=q1;subst e;cases r1 with
 | cons r rr=>
  cases rr;cases r;obtain⟨B3,_,m1,_⟩:=rX I1 q1;have n1:=LZ I1 q1;refine afz m1 λh' c1 c2 kk=>wpAny_pyIter_enum c1 ?_;refine oW _ _ _ _ H1 rfl (I1.kept (t':=s1.toks) kk) (aeu (Df _) (eO n1) (dU (eO (Qb n1)))) ⟨⟨_,c1⟩,c2⟩ (λc hc=>?_) q
  have qW:s1.heap.objs.size<=c:=by
   simp only[bq,rj,or_false]at hc;rcases hc with rfl | rfl <;> lia
  exact I1.fo qW (I1.aG.fresh qW)
end
end L2
namespace L2
open PySem PySem.Spec PyProof.Rows PySem.SeqAt L3
def Nb:V->Option Value
 | .ty n=>some (.type n)
 | .ref a=>some (.ref a)
 | _=>none
theorem Tn{c:V}{cv u:Value}(h:Nb c=some cv)(r:RelV c u):u=cv:=by
 cases c with
 | ty n=>cases h;exact r
 | ref a=>cases h;exact r
 | _=>cases h
def WB(K:W.Frag):List V->Hp->VK->Prop:=λxs H Q=>∃x c t cv b,xs=[x,c]/\iC K H x t/\Nb c=some cv/\W.kitOne K t cv=some b/\Q (.bl b) H
section
variable{X:Cx}
theorem jK:mi X (.builtin "isinstance") (WB X.K):=by
 intro p_ s σ H xs us Q I r h;obtain⟨x,c,t,cv,b,e,ty,hc,hk,q⟩:=h;subst e;cases r with
 | cons r1 r2=>
  cases r2 with
  | cons r2 r3=>
   cases r3;cases Tn hc r2;exact ae3 I r1 ty hk λtk=>(dv (.bl b) H (I.tok tk) rfl q)
theorem range_all(bs:List Bool):(List.range bs.length).all (λi=>bs.getD i false)=bs.all id:=by
 induction bs with
 | nil=>rfl
 | cons b r ih=>
  rw[fG,List.range_succ_eq_map,wM,AJ,wM];simp only[List.getD_cons_zero,id]
  congr 1
theorem Sg:∀{bs:List Bool} {us:List Value},Vals (bs.map V.bl) us->us=bs.map uV
 | [],_,r=>by cases r;rfl
 | b::bs,_,r=>by
  cases r with
  | cons r1 r2=>
   cases r1;rw[iF,Sg r2]
theorem ac'{A:Around}(bs:List Bool):TruthOf X.prog X.w A (λi v=>(bs.map uV).toArray[i]?=some v) (λi=>bs.getD i false):=by
 intro i v s Q E h q;have h':(bs.map uV)[i]?=some v:=by simpa using h
 rw[fw]at h';cases e:bs[i]? with
 | none=>rw[e]at h';cases h'
 | some b=>
  rw[e]at h';have hv:v=.bool b:=(iz h').symm;subst hv;have hq:bs.getD i false=b:=by rw[pY,e];rfl
  have q':Q (bs.getD i false) s:=q;rw[hq]at q';exact sX q'
def an4(K:W.Frag):List V->Hp->VK->Prop:=λxs H Q=>∃(p:Addr) (bs:List Bool),xs=[.ref p]/\av K H p (bs.map V.bl)/\Q (.bl (bs.all id)) H
theorem DP(hc:X.calm=true):mi X (.builtin "all") (an4 X.K):=by
 intro p_ s σ H xs us Q I r h;refine cG h λp bs e hq q=>?_;subst e;refine ah (vals1 r) λu aa rx=>?_;subst aa;cases rx;refine aL (I.list hq) λak rv pl hz=>?_;have ei:=Sg rv;subst ei
 have i8:p≠s.heap.objs.size:=by
  refine ah pl.isList λo e _=>?_;exact eO (bJ e)
 refine call_all_walk (Hz pl.isList (⟨_,_,_,_,_,_,(gD _ rfl (Rq (show X.A.in1.handled=none from I.ok.hd hc) _ p i8 (bs.map uV).toArray) ⟨⟨_,gy _ rfl,rfl,rfl⟩,pl.isList.push _⟩ (ac' bs) λh' tk kk=>?_)⟩))
 have e2:(List.range (bs.map uV).toArray.size).all (λi=>bs.getD i false)=bs.all id:=by
  rw[dq,aX];exact range_all bs
 rw[e2];refine dv (.bl _) H (I.kept λb o e=>kk b o (λz=>?_) (bo _ e)) rfl q;have z':b=s.heap.objs.size:=by simpa using z
 rw[z']at e;exact absurd (bJ e) (iQ _)
mutual
inductive eY (K:W.Frag) (H:Hp):V->PyData->Prop
 | aJ:eY K H .aJ .none
 | bl (b:Bool):eY K H (.bl b) (.bool b)
 | int (i:Int):eY K H (.int i) (.int i)
 | str (x:Str):eY K H (.str x) (.str x)
 | lst {a:Addr} {xs:List V} {ds:List PyData}:av K H a xs->lD K H xs ds->eY K H (.ref a) (.list ds)
 | tup {a:Addr} {xs:List V} {ds:List PyData}:aE K H a xs->lD K H xs ds->eY K H (.ref a) (.tuple ds)
inductive lD (K:W.Frag) (H:Hp):List V->List PyData->Prop
 | nil:lD K H [] []
 | cons {x:V} {d:PyData} {xs:List V} {ds:List PyData}:eY K H x d->lD K H xs ds->lD K H (x::xs) (d::ds)
end
variable{p_:List (Addr×Obj)}{σ:St}{H:Hp}{s:Shared}
mutual
theorem eY.reads(I:Inv X p_ σ H s):∀{v:V} {d:PyData} {u:Value},eY X.K H v d->RelV v u->∃as,Reads s.heap u d as
 | _,_,_,.aJ,r=>by cases r;exact⟨_,.none⟩
 | _,_,_,.bl b,r=>by cases r;exact⟨_,.bool b⟩
 | _,_,_,.int i,r=>by obtain⟨t,e⟩:=r;subst e;exact⟨_,.int i t⟩
 | _,_,_,.str x,r=>by obtain⟨t,e⟩:=r;subst e;exact⟨_,.str x t⟩
 | _,_,_,.lst hq hs,r=>by
  cases r;refine aL (I.list hq) λak rv pl hz=>?_;refine oE (lD.reads I hs rv) λas h=>?_;refine aL pl.isList λo ho hc aa=>?_;refine oE aa λn hd=>?_;exact⟨_,.list ho hc hd (by simpa using h)⟩
 | _,_,_,.tup hq hs,r=>by
  cases r;refine aL (I.tuple hq) λak rv pl hz=>?_;refine oE (lD.reads I hs rv) λas h=>?_;refine aL pl λo ho hc aa=>?_;refine oE aa λn hd=>?_;exact⟨_,.tuple ho hc hd (by simpa using h)⟩
theorem lD.reads(I:Inv X p_ σ H s):∀{vs:List V} {ds:List PyData} {us:List Value},lD X.K H vs ds->Vals vs us->∃as,ReadsAll s.heap us ds as
 | _,_,_,.nil,r=>by cases r;exact⟨_,.nil⟩
 | _,_,_,.cons h t,r=>by
  cases r with
  | cons r1 r2=>
   refine oE (eY.reads I h r1) λas q1=>?_;refine oE (lD.reads I t r2) λbs q2=>?_;exact⟨_,.cons q1 q2⟩
end
def EZ(K:W.Frag)(neg:Bool):R2:=λx y H Q=>∃d e,eY K H x d/\eY K H y e/\shaped d=true/\shaped e=true/\noMix d e=true/\Q (.bl (if neg=true then !same d e else same d e)) H
theorem Ln(hu:X.A.units+64<cLine):eG X (kr .Eq) (EZ X.K false):=by
 intro p_ s σ H x y v u Q I rx ry h;refine iV h λd e h1 h2 h3 h4 h5 q=>?_;refine oE (h1.reads I rx) λas q1=>?_;refine oE (h2.reads I ry) λbs q2=>?_;exact eq_dataH_same q1 q2 h3 h4 hu h5 (dv (.bl _) H I rfl q)
theorem xp(hu:X.A.units+64<cLine):eG X (kr .NotEq) (EZ X.K true):=by
 intro p_ s σ H x y v u Q I rx ry h;refine iV h λd e h1 h2 h3 h4 h5 q=>?_;refine oE (h1.reads I rx) λas q1=>?_;refine oE (h2.reads I ry) λbs q2=>?_;exact ne_dataH_same q1 q2 h3 h4 hu h5 (dv (.bl _) H I rfl q)
end
structure MB(K:W.Frag)(C:Addr)(m:Str)(f:Addr):Prop where
 sp:W.specialIn K (.ref C) "__getattribute__" = some (some (.builtin "type.__getattribute__"))
 rd:W.readsIn K C (.type "type")=true
 fc:W.findCls K (.ref C) (.type "type") m=some (.val (.ref f))
 kp:W.keepIn K (.ref f)=true
section
variable{X:Cx}{CX:nI}{k:Nat}{f C:Addr}{fd:aV}{ps:List Str}{sp:Sp}{dvs:List V}{ds:List Value}{E:XK}{x m:Str}{p pos apos:Pos}{e o:Expr}{es:List Expr}{ta:TE}{t:TA}
theorem yW{pl:Sem Bool}(c:MB X.K C m f)(F:aw X.prog X.w X.K X.mg X.base CX k f fd ps sp)(hr:dX k X.A)(hg:Gl X x)(hm:X.mg x=some (.ref C))(hb:Binds X.K fd ps ds)(hd:Vals dvs ds)(hx:Passes CX X E)(ha:PA X (e::es) t)
  (jZ:(x == ("__debug__" : Str))=false:=by decide) (cR:cg (e::es) X.env=(false,eval e X.env)::cg es X.env:=by rfl) (dO:(backTo pos (cg es X.env)).any (·.1)=false:=by rfl)
  (ht:eval (.Call (.Attribute (.Name x p) m apos) (e::es) [] pos) X.env=(do
   let ov <-eval (.Name x p) X.env
   standAt apos.atName
   let (f,first) <-holding [ov] (A0 ov m pl)
   callWith pos f first (backTo pos (cg (e::es) X.env)) (DS pos (Dq [] X.env))):=by rfl) :
  PE X (.Call (.Attribute (.Name x p) m apos) (e::es) [] pos) (Vy sp dvs E t):=by
 intro p_ s σ H Q I h;refine W.methodCall_KW (pl:=pl) (nU I hg hm ?_ jZ) ht;refine W.method_cls I.cH c.sp (W.cls_value I.cH c.rd c.fc rfl ?_);have I1:=I.tok (s.toks+1);refine W.callWith_K (first:=[]) (h₀:=X.base) I.ok.mod.oq c.kp (aO (ha pos p_ _ σ H _ I1 h) λus s2 ⟨vs,H2,I2,r,q2⟩=>⟨I2.cH,?_⟩) cR dO;exact Bn F hr hb hd hx I2 r q2
def aj9(P:Program)(w:World)(K:W.Frag)(mg:Str->Option Value)(base:Heap)(CX:nI)(k:Nat)(m:Str)(E:XK)(ta:TE):TE:=λσ H Q=>ta σ H λx H1=>∃a C dx fs f fd ps sp,x=.ref a/\H1 a=some (.ins C dx fs)/\fs.lookup m=none/\eh K C/\Meth K C m f/\
 aw P w K mg base CX k f fd ps sp/\Binds K fd ps []/\sp [.ref a] H1 Q E
theorem agb{P:Program}{w:World}{K:W.Frag}{mg:Str->Option Value}{base:Heap}{pl:Sem Bool}(he:PE X o ta)(hr:dX k X.A)(hx:Passes CX X E)(hP:X.prog=P:=by rfl)(hw:X.w=w:=by rfl)(hK:X.K=K:=by rfl)(Af:X.mg=mg:=by rfl)(hbs:X.base=base:=by rfl)
  (ht:eval (.Call (.Attribute o m apos) [] [] pos) X.env=(do
   let ov <-eval o X.env
   standAt apos.atName
   let (f,first) <-holding [ov] (A0 ov m pl)
   callWith pos f first (backTo pos (cg [] X.env)) (DS pos (Dq [] X.env))):=by rfl) :
  PE X (.Call (.Attribute o m apos) [] [] pos) (aj9 P w K mg base CX k m E ta):=by
 subst hP hw hK Af hbs;intro p_ s σ H Q I h;refine W.methodCall_KW (pl:=pl) (aO (he p_ s σ H _ I h) λu s1 hh=>?_) ht;refine cG hh λx H1 I1 rx aa=>?_;obtain⟨a,C,dx,fs,f,fd,ps,sp,ex,ea,aa⟩:=aa;refine md aa λl c hm F hb q=>?_;subst ex;obtain rfl:u=cb a:=rx;refine IH I1 ea c hm l ?_;exact W.callWith_K0 (first:=[.ref a]) I1.cH hm.kp (Bn (us:=[.ref a]) (vs:=[.ref a]) (dvs:=[]) (ds:=[]) F hr hb .nil hx I1 (.cons rfl .nil) q)
end
theorem cx{c A B:Prop}[Decidable c](h1:c->A)(h2:¬c->B):if decide c=true then A else B:=by
 by_cases h:c
 ·rw[decide_eq_true h];exact iM (h1 h)
 ·rw[decide_eq_false h];exact fk (h2 h)
theorem EJ{c A B:Prop}[Decidable c](h1:¬c->A)(h2:c->B):if (!decide c)=true then A else B:=by
 by_cases h:c
 ·rw[decide_eq_true h];exact fk (h2 h)
 ·rw[decide_eq_false h];exact iM (h1 h)
theorem MW{b:Bool}{A B:Prop}(h1:b=true->A)(h2:b=false->B):if b=true then A else B:=by
 cases b with
 | true=>exact iM (h1 rfl)
 | false=>exact fk (h2 rfl)
theorem By{b:Bool}{A B:Prop}(h1:b=false->A)(h2:b=true->B):if (!b)=true then A else B:=by
 cases b with
 | true=>exact fk (h2 rfl)
 | false=>exact iM (h1 rfl)
def Wz(sc out:Scope)(XN N:List Str)(idx:List Nat):Bool:=
 decide (sc.kind=.function)&&(sc.names.all (λy=>decide (y.2≠.cell))&&(sc.names.all (λy=>decide (y.2≠.local)||decide (sc.names.lookup y.1=some .local)) && (sc.names.all (λy=>decide (y.2≠.free)||decide (out.names.lookup y.1=some .cell))&&(decide (idx.length<=N.length)&&(idx.zip N).all λp=>decide (XN[p.1]?=some p.2)&&decide (sc.names.lookup p.2=some .free)))))
theorem dN.of{X:Cx}{sc:Scope}{N:List Str}{idx:List Nat}(h:Wz sc X.env.scope X.N N idx=true):dN X sc N idx:=by
 unfold Wz at h;simp only[fJ,decide_eq_true_eq,yI,Bool.or_eq_true]at h;refine md h λh1 h2 h3 h4 h5 h6=>?_;refine⟨h1,h2,λy hy e=>?_,λy hy e=>?_,h5,λk i x a b=>?_⟩
 ·rcases h3 y hy with z | z
  ·exact absurd e z
  ·exact z
 ·rcases h4 y hy with z | z
  ·exact absurd e z
  ·exact z
 ·have hm:(i,x)∈idx.zip N:=by
   have:(idx.zip N)[k]?=some (i,x):=by rw[aaq];exact⟨a,b⟩
   exact cQ this
  exact h6 (i,x) hm
end L2
namespace TL
open PySem PySem.Spec PyProof.Rows L2 L3
def kinds:List String:=["NoneType","bool","int","str","list","tuple"]
def U9:List String:=["int","bool","str","tuple","list"]
def qA(T U:String):Bool:=T == U||(T == "bool" && U == "int")
theorem akX(K:W.Frag)(T U:String):W.kitOne K (.type T) (.type U) =
  (if (oY T == oY U)=true then some true else if W.kitMeta U=true then (fastBuiltinMro T).map (·.contains (.type U)) else none):=rfl
theorem aiS:∀T∈kinds,∀U∈U9,(if (oY T == oY U)=true then some true else if W.kitMeta U=true then (fastBuiltinMro T).map (·.contains (.type U)) else none)=some (qA T U):=dk
def tyName(H:Hp):V->Option String
 | .aJ=>some "NoneType"
 | .bl _=>some "bool"
 | .int _=>some "int"
 | .str _=>some "str"
 | .ref a=>match H a with
  | some (.lst _)=>some "list"
  | some (.tup _)=>some "tuple"
  | _=>none
 | _=>none
theorem Ry{K:W.Frag}{H:Hp}{v:V}{T:String}(h:tyName H v=some T):iC K H v (.type T)/\T∈kinds:=by
 cases v with
 | aJ=>cases h;exact⟨.aJ,qc⟩
 | bl b=>cases h;exact⟨.bl b,qc⟩
 | int i=>cases h;exact⟨.int i,qc⟩
 | str x=>cases h;exact⟨.str x,qc⟩
 | ref a=>
  unfold tyName at h;cases e:H a with
  | none=>simp only[e]at h;cases h
  | some o=>
   cases o with
   | lst xs=>simp only[e]at h;cases h;exact⟨.lst e,qc⟩
   | tup xs=>simp only[e]at h;cases h;exact⟨.tup e,qc⟩
   | _=>simp only[e]at h;cases h
 | _=>cases h
theorem nz{K:W.Frag}{H:Hp}{v:V}{T U:String}(h:tyName H v=some T)(hU:U∈U9):W.kitOne K (.type T) (.type U)=some (qA T U):=by
 rw[akX];exact aiS T (Ry (K:=K) h).2 U hU
theorem nF{K:W.Frag}{H:Hp}{v:V}{T:String}(h:tyName H v=some T):iC K H v (.type T):=(Ry h).1
theorem rD{H H':Hp}{v:V}{T:String}(s:af H H')(h:tyName H v=some T):tyName H' v=some T:=by
 cases v with
 | ref a=>
  unfold tyName at h ⊢;cases e:H a with
  | none=>simp only[e]at h;cases h
  | some o=>simp only[s a o e];simp only[e]at h;exact h
 | _=>exact h
def qG:V->Bool
 | .int _=>true
 | _=>false
theorem Va{H:Hp}{v:V}{T:String}(h:tyName H v=some T):(qA T "int" && !qA T "bool")=qG v:=by
 cases v with
 | aJ=>cases h;rfl
 | bl b=>cases h;rfl
 | int i=>cases h;rfl
 | str x=>cases h;rfl
 | ref a=>
  unfold tyName at h;cases e:H a with
  | none=>simp only[e]at h;cases h
  | some o=>
   cases o with
   | lst xs=>simp only[e]at h;cases h;rfl
   | tup xs=>simp only[e]at h;cases h;rfl
   | _=>simp only[e]at h;cases h
 | _=>cases h
def cD(w:Str):Option (List Int):=
 if w = "put" then some [4,mm] else if w = "add" then some [4,4] else if w = "set" then some [12,4] else if w = "look" then some [4,12] else if w = "swap" then some [4,12]
 else if w = "clear" then some [] else if w = "skip" then some [4,121] else none
def kN:V->Int->Bool
 | .int i,b=>decide (0<=i)&&decide (i<b)
 | _,_=>false
def stepOk:List V->Bool
 | .str w::ps=>match cD w with
  | none=>false
  | some bs=>decide (ps.length=bs.length)&&(ps.zip bs).all λp=>kN p.1 p.2
 | _=>false
def cq(H:Hp):V->Option (List V)
 | .ref a=>match H a with
  | some (.tup xs)=>some xs
  | _=>none
 | _=>none
def kD(H:Hp)(v:V):Bool:=match cq H v with
 | some xs=>stepOk xs
 | none=>false
theorem yY{H:Hp}{v:V}{xs:List V}(h:cq H v=some xs):∃a,v=.ref a/\H a=some (.tup xs):=by
 cases v with
 | ref a=>
  refine ar a rfl ?_;unfold cq at h;cases e:H a with
  | none=>simp only[e]at h;cases h
  | some o=>
   cases o with
   | tup ys=>simp only[e]at h;cases h;rfl
   | _=>simp only[e]at h;cases h
 | _=>cases h
theorem gZ{H:Hp}{a:Addr}{xs:List V}(h:H a=some (.tup xs)):cq H (.ref a)=some xs:=by
 unfold cq;simp only[h]
theorem tx{H:Hp}{a:Addr}{xs:List V}(h:H a=some (.tup xs)):tyName H (.ref a)=some "tuple":=by
 unfold tyName;simp only[h]
theorem Bq{H:Hp}{v:V}{T:String}(h:tyName H v=some T):qA T "tuple" = (cq H v).isSome:=by
 cases v with
 | aJ=>cases h;rfl
 | bl b=>cases h;rfl
 | int i=>cases h;rfl
 | str x=>cases h;rfl
 | ref a=>
  unfold tyName at h;unfold cq;cases e:H a with
  | none=>simp only[e]at h;cases h
  | some o=>
   cases o with
   | lst xs=>simp only[e]at h ⊢;cases h;rfl
   | tup xs=>simp only[e]at h ⊢;cases h;rfl
   | _=>simp only[e]at h;cases h
 | _=>cases h
theorem Eo{H:Hp}{v:V}{T:String}(h:tyName H v=some T):qA T "str" = true↔∃x,v=.str x:=by
 cases v with
 | str x=>cases h;exact⟨λ_=>⟨x,rfl⟩,λ_=>rfl⟩
 | aJ=>cases h;exact⟨λz=>(by cases z),λ⟨_,z⟩=>(by cases z)⟩
 | bl b=>cases h;exact⟨λz=>(by cases z),λ⟨_,z⟩=>(by cases z)⟩
 | int i=>cases h;exact⟨λz=>(by cases z),λ⟨_,z⟩=>(by cases z)⟩
 | ref a=>
  refine⟨λz=>?_,λ⟨_,z⟩=>by cases z⟩;unfold tyName at h;cases e:H a with
  | none=>simp only[e]at h;cases h
  | some o=>
   cases o with
   | lst xs=>simp only[e]at h;cases h;cases z
   | tup xs=>simp only[e]at h;cases h;cases z
   | _=>simp only[e]at h;cases h
 | _=>cases h
theorem aH{H H':Hp}{p:Addr}{o:HO}(s:af H H')(h:H' p=none):af H (upd H' p o):=λb u e=>by
 rw[aj (ba (s b u e) h)];exact s b u e
structure Bl(mg:Str->Option Value):Prop where
 jU:mg "isinstance" = none
 int:mg "int" = none
 bool:mg "bool" = none
 str:mg "str" = none
 tuple:mg "tuple" = none
 len:mg "len" = none
 all:mg "all" = none
 zip:mg "zip" = none
structure Cn(mg:Str->Option Value):Prop where
 top:∃u,mg "TOP" = some u/\RelV (.int mm) u
 names:∃u,mg "NAMES" = some u/\RelV (.int 12) u
 dJ:∃u,mg "REGISTERS" = some u/\RelV (.int 4) u
 long:∃u,mg "LONGEST" = some u/\RelV (.int 120) u
section
variable{P:Program}{w:World}{K:W.Frag}{mg:Str->Option Value}{base:Heap}
def J':Sp:=λvs H Q _=>∃v T,vs=[v]/\tyName H v=some T/\Q (.bl (qG v)) H
theorem ahZ:bg ["thing"] ["thing"] (aQ Bj):=bu
theorem SJ{f:Addr}{fd:aV}(F:aW K "is_whole" "is_whole" Bj f fd)(B:Bl mg):aw P w K mg base az 1 f fd ["thing"] J':=by
 refine F.ok ahZ (λvs H Q E h=>?_) λaI A _ s H vs Q E hr h=>?_
 ·refine a9 h λv T aa _=>?_;clear h;subst aa;rfl
 ·refine cG h λv T aa ht k=>?_;clear h;subst aa;refine⟨_,aB (a8 (zm (cA jK rfl B.jU jc (ae (pv 0) (ae (pf (v:=.ty "int") rfl B.int Bb rfl) ag))) (vo (Lm (cA jK rfl B.jU jc (ae (pv 0) (ae (pf (v:=.ty "bool") rfl B.bool boot_bool rfl) ag))))))),?_⟩;have e:=Va ht;refine ar v rfl (cY _ _ _ _ (gD _ rfl (nF ht) rfl (nz ht qc) (ar _ rfl (MW (λh1=>?_) λh1=>?_))))
  ·refine ar v rfl (cY _ _ _ _ (gD _ rfl (nF ht) rfl (nz ht qc) (ar _ rfl ?_)));rw[h1,oU]at e;rw[e];exact k
  ·rw[h1,rn]at e;rw[e];exact k
def SD:Sp:=λvs H Q _=>∃x,vs=[.str x]/\(cD x=none->Q .aJ H)/\∀bs,cD x=some bs->∀p,H p=none->Q (.ref p) (upd H p (.lst (bs.map V.int)))
theorem af4:bg ["word"] ["word"] (aQ Be):=bu
theorem str_inj{x y:Str}(h:V.str x=V.str y):x=y:=by injection h
theorem aeO{f:Addr}{fd:aV}(F:aW K "bounds_of" "bounds_of" Be f fd)(C:Cn mg):aw P w K mg base az 1 f fd ["word"] SD:=by
 refine F.ok af4 (λvs H Q E h=>?_) λaI A _ s H vs Q E hr h=>?_
 ·refine ah h λv aa _=>?_;clear h;subst aa;rfl
 ·refine aL h λx aa k0 k1=>?_;clear h;subst aa;refine ah C.top λuT mT rT=>?_;refine ah C.names λuN mN rN=>?_;refine ah C.dJ λuR mR rR=>?_;refine ah C.long λuL mL rL=>?_;refine⟨_,ax (cF (cw eC (pv 0) bw (bU _)) (aB (a8 (dW (ae (fV rfl mR rR) (ae (fV rfl mT rT) ag))))) cU) (ax (cF (cw eC (pv 0) bw (bU _)) (aB (a8 (dW (ae (fV rfl mR rR) (ae (fV rfl mR rR) ag))))) cU) (ax (cF (cw eC (pv 0) bw (bU _)) (aB (a8 (dW (ae (fV rfl mN rN) (ae (fV rfl mR rR) ag))))) cU) (ax (cF (PW.pt (pw_or (cw eC (pv 0) bw (bU _)) (pw_or1 (cw eC (pv 0) bw (bU _))))) (aB (a8 (dW (ae (fV rfl mR rR) (ae (fV rfl mN rN) ag))))) cU) (ax (cF (cw eC (pv 0) bw (bU _)) (aB (a8 (dW ag))) cU) (ax (cF (cw eC (pv 0) bw (bU _)) (aB (a8 (dW (ae (fV rfl mR rR) (ae (a7 kz (fV rfl mL rL) ay) ag))))) cU) (aB (a8 rS))))))),?_⟩;refine vr rfl ⟨rfl,⟨_,rfl,cx (λe=>?_) λn1=>?_⟩⟩
  ·cases str_inj e;exact⟨qc,λp hp=>k1 [4,mm] (by unfold cD;rw[if_pos rfl]) p hp⟩
  refine ar _ rfl ⟨rfl,⟨_,rfl,cx (λe=>?_) λn2=>?_⟩⟩
  ·cases str_inj e;exact⟨qc,λp hp=>k1 [4,4] (by unfold cD;rw[if_neg dk,if_pos rfl]) p hp⟩
  refine ar _ rfl ⟨rfl,⟨_,rfl,cx (λe=>?_) λn3=>?_⟩⟩
  ·cases str_inj e;exact⟨qc,λp hp=>k1 [12,4] (by unfold cD;rw[if_neg dk,if_neg dk,if_pos rfl]) p hp⟩
  refine ar _ rfl ⟨rfl,⟨_,rfl,cx (λe=>?_) λn4=>?_⟩⟩
  ·cases str_inj e;exact iM ⟨qc,λp hp=>k1 [4,12] (by unfold cD;rw[if_neg dk,if_neg dk,if_neg dk,if_pos rfl]) p hp⟩
  refine vr rfl ⟨rfl,⟨_,rfl,cx (λe=>?_) λn5=>?_⟩⟩
  ·cases str_inj e;exact⟨qc,λp hp=>k1 [4,12] (by unfold cD;rw[if_neg dk,if_neg dk,if_neg dk,if_neg dk,if_pos rfl]) p hp⟩
  refine ar _ rfl ⟨rfl,⟨_,rfl,cx (λe=>?_) λn6=>?_⟩⟩
  ·cases str_inj e;exact⟨qc,λp hp=>k1 [] (by unfold cD;rw[if_neg dk,if_neg dk,if_neg dk,if_neg dk,if_neg dk,if_pos rfl]) p hp⟩
  refine ar _ rfl ⟨rfl,⟨_,rfl,cx (λe=>?_) λn7=>?_⟩⟩
  ·cases str_inj e;exact⟨_,⟨_,rfl,rfl,qc,λp hp=>k1 [4,121] (by unfold cD;rw[if_neg dk,if_neg dk,if_neg dk,if_neg dk,if_neg dk,if_neg dk,if_pos rfl]) p hp⟩⟩
  refine k0 ?_;have nn:∀{y:Str},¬V.str x=V.str y->¬x=y:=λh e=>h (by rw[e]);unfold cD;rw[if_neg (nn n1),if_neg (nn n2),if_neg (nn n3),if_neg (nn n4),if_neg (nn n5),if_neg (nn n6),if_neg (nn n7)]
def Sw:Sp:=λvs H Q _=>∃v T,vs=[v]/\tyName H v=some T/\(∀xs,cq H v=some xs->xs.length<=1000/\∀x∈xs,∃T,tyName H x=some T)/\∀H',af H H'->Q (.bl (kD H v)) H'
theorem SG:bg ["told","bounds"] ["told"] (aQ DZ):=bu
theorem MQ(y:V)(ps:List V):HT.bf (y::ps).length 0 (some 1)=1:=by
 simp only[HT.bf,fG]
 first | omega | (simp;done) | (split <;> omega)
theorem WN(y:V)(ps:List V):jT (y::ps) (some 1) none=ps:=by
 unfold jT;rw[MQ];show List.take (HT.bf (y::ps).length (y::ps).length none-1) ps=ps;exact iE (by simp[HT.bf])
theorem Ro{x:Str}{bs:List Int}(h:cD x=some bs):bs.length<=2:=by
 unfold cD at h
 repeat (first | (split at h;(cases h;decide)) | (cases h;done))
theorem VP:(["part","bound"]:List Str).Nodup:=dk
theorem aeN{f fW fB:Addr}{fd kU ow:aV}(F:aW K "is_step" "is_step" DZ f fd)(B:Bl mg)(C:Cn mg)
  (FW:aW K "is_whole" "is_whole" Bj fW kU) (bW:Binds K kU ["thing"] []) (mW:mg "is_whole" = some (.ref fW)) (FB:aW K "bounds_of" "bounds_of" Be fB ow) (bB:Binds K ow ["word"] []) (mB:mg "bounds_of" = some (.ref fB)) :
  aw P w K mg base az 2 f fd ["told"] Sw:=by
 have GW:aw P w K mg base az 1 fW kU ["thing"] J':=SJ FW B;have GB:aw P w K mg base az 1 fB ow ["word"] SD:=aeO FB C;refine F.ok SG (λvs H Q E h=>?_) λaI A _ s H vs Q E hr h=>?_
 ·refine a9 h λv T aa _=>?_;clear h;subst aa;rfl
 ·refine nW h λv T aa ht hx k=>?_;clear h;subst aa
  refine⟨_,ax (cF (PW.pt (pw_or (nk (iX (cA jK rfl B.jU jc (ae (pv 0) (ae (pf (v:=.ty "tuple") rfl B.tuple uU rfl) ag))))) (pw_or (cw eC (cA iG rfl B.len PySem.boot_len (ae (pv 0) ag)) ay (bU _)) (pw_or1 (nk (iX (cA jK rfl B.jU jc (ae (aT du (pv 0) ay) (ae (pf (v:=.ty "str") rfl B.str boot_str rfl) ag))))))))) (aB (a8 kG)) cU) (ax (bZ (i:=1) SG.nd rfl (aR rfl) (dF GB hr rfl mB FB.kp bB .nil aS (ae (aT du (pv 0) ay) ag))) (ax (cF (PW.pt (pw_or (cw U2 (pv 1) rS (bU _)) (pw_or1 (cw VL (cA iG rfl B.len PySem.boot_len (ae (pv 0) ag)) (a7 kz (cA iG rfl B.len PySem.boot_len (ae (pv 1) ag)) ay) (bU _))))) (aB (a8 kG)) cU) (aB (a8 (cA (DP rfl) rfl B.all boot_all (ae (ji (N:=["part","bound"]) (idx:=[]) rfl (dN.of (by kernel_rfl)) (IG (bX _) (bX _))
    (akr (b1:=false) (b2:=true) rfl B.zip (ae (uZ Ed (pv 0) (vf ay) vg) (ae (pv 1) ag)))
    (λ_ _ _ _=>zk rfl (pe (de (i:=0) VP rfl (aR rfl) (.inr rfl)) (pe (de (i:=1) VP rfl (aR rfl) (.inr rfl)) za)))
    (λ_ _ _ _=>jt)
    λ_ _ _ _=>zm (dF GW hr rfl mW FW.kp bW .nil aS (ae (pv 0) ag)) (vo (age Mf Bx ay (pv 0) (pv 1)))) ag)))))),?_⟩
  cases hv:cq H v with
  | none=>
   have hi:qA T "tuple" = false:=by rw[Bq ht,hv];rfl
   have cR:kD H v=false:=by unfold kD;rw[hv]
   have kk:=k H (af.refl H);rw[cR]at kk;refine ar v rfl (cY _ _ _ _ (gD _ rfl (nF ht) rfl (nz ht qc) (ar _ rfl ?_)));rw[hi];exact iM (iM kk)
  | some xs=>
   refine ah (yY hv) λa e0 ha=>?_;subst e0;refine oA (hx xs hv) λhl jV=>?_;have hi:qA T "tuple" = true:=by rw[Bq ht,hv];rfl
   have kk:∀H',af H H'->Q (.bl (stepOk xs)) H':=λH' s=>by
    have q:=k H' s;unfold kD at q;rw[hv]at q;exact q
   refine vr rfl (cY _ _ _ _ (gD _ rfl (nF ht) rfl (nz ht qc) (ar _ rfl ?_)));rw[hi];refine fk ?_;cases xs with
   | nil=>
    refine vr rfl (dv a ([]) rfl (.inr (aE.of ha)) ⟨rfl,⟨_,rfl,cx (λe=>?_) λn0=>absurd rfl n0⟩⟩);exact iM (kk H (af.refl H))
   | cons y ps=>
    refine vr rfl (dv a (y::ps) rfl (.inr (aE.of ha)) ⟨rfl,⟨_,rfl,cx (λe=>?_) λn0=>?_⟩⟩)
    ·injection e with e
     exact absurd e (by simp only[fG];omega)
    refine oE (jV y dE) λTy hy=>?_;refine kQ (v:=y) (j:=0) rfl ha rfl (cY _ _ _ _ (gD _ rfl (nF hy) rfl (nz hy qc) (ar _ rfl ?_)));refine By (λh1=>?_) λh1=>?_
    ·have e:stepOk (y::ps)=false:=by
      cases y with
      | str x=>exact absurd ((Eo hy).mpr ⟨x,rfl⟩) (by rw[h1];exact dh)
      | _=>rfl
     have q:=kk H (af.refl H);rw[e]at q;exact q
    refine oE ((Eo hy).mp h1) λx0 e0=>?_;subst e0;refine kQ (v:=.str x0) (j:=0) rfl ha rfl (c8 x0 rfl (λhb=>?_) λbs hb p hp=>?_)
    ·refine ar _ rfl ⟨rfl,⟨_,rfl,cx (λ_=>?_) λn=>absurd rfl n⟩⟩
     have e:stepOk (.str x0::ps)=false:=by
      show (match cD x0 with | none=>false | some bs=>decide (ps.length=bs.length)&&(ps.zip bs).all λp=>kN p.1 p.2)=false;rw[hb]
     have q:=kk H (af.refl H);rw[e]at q;exact iM q
    have s1:af H (upd H p (.lst (bs.map V.int))):=aH (af.refl H) hp;have CF:=s1 _ _ ha
    have eS:stepOk (.str x0::ps)=(decide (ps.length=bs.length)&&(ps.zip bs).all λp=>kN p.1 p.2):=by
     show (match cD x0 with | none=>false | some bs=>decide (ps.length=bs.length)&&(ps.zip bs).all λp=>kN p.1 p.2)=_;rw[hb]
    rw[eS]at kk;refine ar _ rfl ⟨rfl,⟨_,rfl,cx (λz=>by cases z) λ_=>?_⟩⟩;refine vr rfl ⟨a,⟨_,rfl,.inr (aE.of CF),_,rfl,p,_,rfl,.inl (av.of au),_,_,rfl,rfl,rfl,_,rfl,EJ (λne=>?_) λeq=>?_⟩⟩
    ·have e:decide (ps.length=bs.length)=false:=decide_eq_false λz=>ne (by rw[fG,aX,z];rfl);rw[e,rn]at kk;exact kk _ s1
    have hlen:ps.length=bs.length:=by
     injection eq with eq
     rw[fG,aX]at eq;omega
    rw[decide_eq_true hlen,oU]at kk;refine ar _ rfl (ar 1 rfl ⟨a,⟨_,rfl,aE.of CF,?_,λq hq=>?_⟩⟩)
    ·intro z;have z1:=z.1;rw[MQ]at z1;cases z1
    rw[WN];have s2:af H (upd (upd H p (.lst (bs.map V.int))) q (.tup ps)):=aH s1 hq;have vV:p≠q:=ba au hq;have ym:upd (upd H p (.lst (bs.map V.int))) q (.tup ps) p=some (.lst (bs.map V.int)):=by rw[aj vV];exact au
    refine vr rfl (⟨q,p,ps,(bs.map V.int),rfl,(aE.of au),(av.of ym),?_⟩);generalize hH3:upd (upd H p (.lst (bs.map V.int))) q (.tup ps)=H3 at s2 ym;have uw:H3 q=some (.tup ps):=by rw[<-hH3];exact au
    refine iW (n:=bs.length) (λi ys H'=>i<=bs.length/\af H3 H'/\ys=((ps.zip bs).take i).map λz=>V.bl (kN z.1 z.2)) ?_ ?_ ?_ ?_ ?_ ?_ ?_
    ·have gd:=Ro hb;exact cO (c9 w4)
    ·exact iq (bX _) (af.refl _) rfl
    ·rintro i ys H' ⟨_,_,e⟩;rw[e,aX,ff];exact xl
    ·rintro i ys H' hi ⟨_,s3,_⟩;exact⟨ps,(bs.map V.int),(ps[i]'wg),(V.int bs[i]),(aE.of (s3 _ _ uw)),(av.of (s3 _ _ ym)),(by simp[hlen,hi]),(by simp[hi])⟩
    ·rintro ys H' ⟨_,s3,_⟩;exact dv ps (bs.map V.int) (aE.of (s3 _ _ uw)) (av.of (s3 _ _ ym)) (.inr (by rw[aX];exact aF _))
    ·rintro i ys H' hi ⟨_,s3,e⟩ v fb ⟨r,x,y,i7,ev,eH,hxy⟩;refine oA (hxy ps (bs.map V.int) (aE.of (s3 _ _ uw)) (av.of (s3 _ _ ym))) λeN ur=>?_;subst ev;subst eH
     have pW:y=V.int bs[i]:=by
      rw[fw,bb hi]at ur;exact(iz ur).symm
     subst pW;have s4:af H3 (upd H' r (.tup [x,V.int bs[i]])):=aH s3 i7;refine oE (jV x (dn _ (cQ eN))) λTx yx=>?_;have Ny:=rD (s2.trans s4) yx
     have zi:(ps.zip bs)[i]?=some (x,bs[i]):=by
      rw[aaq];exact⟨eN,bb hi⟩
     have fin:∀c,c=kN x bs[i]->i+1<=bs.length/\af H3 (upd H' r (.tup [x,V.int bs[i]]))/\ys++[V.bl c]=((ps.zip bs).take (i+1)).map λz=>V.bl (kN z.1 z.2):=λc hc=>by
      refine iq hi s4 ?_;rw[lj,zi,km,<-e,hc];rfl
     refine qi r ([x,V.int bs[i]]) rfl (aE.of au) rfl (eW x ([V.int bs[i]]) rfl (dv (V.int bs[i]) ([]) rfl rfl ?_));dsimp only[jS];rw[if_pos rfl];refine vr rfl (dv x Tx rfl Ny (ar _ rfl ?_));cases x with
     | int j=>
      refine iM (ar _ rfl (eW 0 j rfl ⟨rfl,⟨_,rfl,cx (λh0=>?_) λh0=>?_⟩⟩))
      ·refine vr rfl (dv j (bs[i]) rfl rfl ?_);exact fin _ (by show _=(decide (0<=j)&&decide (j<bs[i]));rw[decide_eq_true h0,oU])
      ·exact fin _ (by show _=(decide (0<=j)&&decide (j<bs[i]));rw[decide_eq_false h0,rn])
     | _=>exact fk (fin _ rfl)
    ·rintro ys H' ⟨_,s3,e⟩;refine⟨?_,λr i7=>?_⟩
     ·rw[e,aX,ff];have gd:=Ro hb;have:=c9 (n:=bs.length) w4;omega
     have ey:ys=(((ps.zip bs).map λz=>kN z.1 z.2)).map V.bl:=by
      rw[e,iE (by rw[List.length_zip];omega),yR];rfl
     refine dv r ((ps.zip bs).map λz=>kN z.1 z.2) rfl (av.of (by rw[au,ey])) ?_;rw[AJ];exact kk _ (aH (s2.trans s3) i7)
def vn(K:W.Frag):Sp:=λvs H Q _=>∃x C dx fs a xs,vs=[.ref x,.ref a]/\H x=some (.ins C dx fs)/\eh K C/\bj K C "parts"/\fs.length<900/\H a=some (.tup xs)/\Q .aJ (upd H x (.ins C dx (aD "parts" (.ref a) fs)))
theorem aki:bg ["self","told"] ["self","told"] (aQ EC):=bu
theorem wZ{f:Addr}{fd:aV}(F:aW K "__init__" "Step.__init__" EC f fd)(B:mg "tuple" = none):aw P w K mg base az 1 f fd ["self","told"] (vn K):=by
 refine F.ok aki (λvs H Q E h=>?_) λaI A _ s H vs Q E hr h=>?_
 ·refine ni h λx C dx fs a xs aa _=>?_;subst aa;rfl
 ·obtain⟨x,C,dx,fs,a,xs,aa,hx,cl,nP,hl,ha,k⟩:=h;subst aa;refine nE (aB (dr (pv 0) (jg AG rfl B uU (ae (pv 1) ag)) rfl)) ?_;exact vr rfl (eW a xs rfl (.inr ⟨aE.of ha,_,rfl,x,C,dx,fs,rfl,hx,cl,nP,wa,k⟩))
theorem zB(f:Str)(u:V):(aD f u []).length<1000:=by
 have h1:=ko f u [];have h3:([]:List (Str×V)).length=0:=rfl;exact wb
theorem zA(f g:Str)(u v:V):(aD f u (aD g v [])).length<1000:=by
 have h1:=ko f u (aD g v []);have h2:=ko g v [];have h3:([]:List (Str×V)).length=0:=rfl;exact xi
structure xy(K:W.Frag)(mg:Str->Option Value)(cS fI:Addr)(dY:aV):Prop where
 fn:aW K "__init__" "Step.__init__" EC fI dY
 bi:Binds K dY ["self","told"] []
 cf:MB K cS "__init__" fI
 at_:mg "Step" = some (.ref cS)
 tup:mg "tuple" = none
def pI(C:Addr)(f1 f2:Str):Sp:=λvs H Q _=>∃x dx a xs v1 v2,vs=[.ref x,.ref a]/\H x=some (.ins C dx [])/\H a=some (.tup xs)/\xs[1]?=some v1/\xs[2]?=some v2/\
 Q .aJ (upd H x (.ins C dx (aD f2 v2 (aD f1 v1 (aD "parts" (.ref a) [])))))
theorem akf:bg ["self","told"] ["self","told"] (aQ EB):=bu
theorem aiu{f fI cS C:Addr}{fd dY:aV}(F:aW K "__init__" "Put.__init__" EB f fd)(I:xy K mg cS fI dY)(cl:eh K C)(nP:bj K C "parts")(n1:bj K C "reg")(n2:bj K C "number") :
  aw P w K mg base az 2 f fd ["self","told"] (pI C "reg" "number"):=by
 have GI:aw P w K mg base az 1 fI dY ["self","told"] (vn K):=wZ I.fn I.tup;refine F.ok akf (λvs H Q E h=>?_) λaI A _ s H vs Q E hr h=>?_
 ·refine ni h λx dx a xs v1 v2 aa _=>?_;subst aa;rfl
 ·obtain⟨x,dx,a,xs,v1,v2,aa,hx,ha,e1,e2,k⟩:=h;subst aa;refine⟨_,ax (dQ (yW I.cf GI hr rfl I.at_ I.bi .nil aS (ae (pv 0) (ae (pv 1) ag)))) (ax (dr (pv 0) (aT du (pv 1) ay) rfl) (aB (dr (pv 0) (aT du (pv 1) ay) rfl))),?_⟩;have iO:a≠x:=gj ha hx (by intro z;cases z);refine vr rfl (vr rfl ⟨x,⟨C,dx,[],a,xs,rfl,hx,cl,nP,qc,ha,?_⟩⟩);refine vT (v:=v1) rfl (aE.of (by rw[aj iO];exact ha)) (dG (j:=1) e1) ⟨_,rfl,x,C,dx,_,rfl,au,cl,n1,zB _ _,?_⟩;refine vT (v:=v2) rfl (aE.of (by rw[aj iO,aj iO];exact ha)) (dG (j:=2) e2) ⟨_,rfl,x,C,dx,_,rfl,au,cl,n2,zA _ _ _ _,?_⟩;rw[nj,nj];exact k
theorem akl:bg ["self","told"] ["self","told"] (aQ ED):=bu
theorem aiC{f fI cS C:Addr}{fd dY:aV}(F:aW K "__init__" "Add.__init__" ED f fd)(I:xy K mg cS fI dY)(cl:eh K C)(nP:bj K C "parts")(n1:bj K C "reg")(n2:bj K C "other") :
  aw P w K mg base az 2 f fd ["self","told"] (pI C "reg" "other"):=by
 have GI:aw P w K mg base az 1 fI dY ["self","told"] (vn K):=wZ I.fn I.tup;refine F.ok akl (λvs H Q E h=>?_) λaI A _ s H vs Q E hr h=>?_
 ·refine ni h λx dx a xs v1 v2 aa _=>?_;subst aa;rfl
 ·obtain⟨x,dx,a,xs,v1,v2,aa,hx,ha,e1,e2,k⟩:=h;subst aa;refine⟨_,ax (dQ (yW I.cf GI hr rfl I.at_ I.bi .nil aS (ae (pv 0) (ae (pv 1) ag)))) (ax (dr (pv 0) (aT du (pv 1) ay) rfl) (aB (dr (pv 0) (aT du (pv 1) ay) rfl))),?_⟩;have iO:a≠x:=gj ha hx (by intro z;cases z);refine vr rfl (vr rfl ⟨x,⟨C,dx,[],a,xs,rfl,hx,cl,nP,qc,ha,?_⟩⟩);refine vT (v:=v1) rfl (aE.of (by rw[aj iO];exact ha)) (dG (j:=1) e1) ⟨_,rfl,x,C,dx,_,rfl,au,cl,n1,zB _ _,?_⟩;refine vT (v:=v2) rfl (aE.of (by rw[aj iO,aj iO];exact ha)) (dG (j:=2) e2) ⟨_,rfl,x,C,dx,_,rfl,au,cl,n2,zA _ _ _ _,?_⟩;rw[nj,nj];exact k
theorem ake:bg ["self","told"] ["self","told"] (aQ EA):=bu
theorem ait{f fI cS C:Addr}{fd dY:aV}(F:aW K "__init__" "Set.__init__" EA f fd)(I:xy K mg cS fI dY)(cl:eh K C)(nP:bj K C "parts")(n1:bj K C "name")(n2:bj K C "reg") :
  aw P w K mg base az 2 f fd ["self","told"] (pI C "name" "reg"):=by
 have GI:aw P w K mg base az 1 fI dY ["self","told"] (vn K):=wZ I.fn I.tup;refine F.ok ake (λvs H Q E h=>?_) λaI A _ s H vs Q E hr h=>?_
 ·refine ni h λx dx a xs v1 v2 aa _=>?_;subst aa;rfl
 ·obtain⟨x,dx,a,xs,v1,v2,aa,hx,ha,e1,e2,k⟩:=h;subst aa;refine⟨_,ax (dQ (yW I.cf GI hr rfl I.at_ I.bi .nil aS (ae (pv 0) (ae (pv 1) ag)))) (ax (dr (pv 0) (aT du (pv 1) ay) rfl) (aB (dr (pv 0) (aT du (pv 1) ay) rfl))),?_⟩;have iO:a≠x:=gj ha hx (by intro z;cases z);refine vr rfl (vr rfl ⟨x,⟨C,dx,[],a,xs,rfl,hx,cl,nP,qc,ha,?_⟩⟩);refine vT (v:=v1) rfl (aE.of (by rw[aj iO];exact ha)) (dG (j:=1) e1) ⟨_,rfl,x,C,dx,_,rfl,au,cl,n1,zB _ _,?_⟩;refine vT (v:=v2) rfl (aE.of (by rw[aj iO,aj iO];exact ha)) (dG (j:=2) e2) ⟨_,rfl,x,C,dx,_,rfl,au,cl,n2,zA _ _ _ _,?_⟩;rw[nj,nj];exact k
theorem ah4:bg ["self","told"] ["self","told"] (aQ Eh):=bu
theorem agr{f fI cS C:Addr}{fd dY:aV}(F:aW K "__init__" "Look.__init__" Eh f fd)(I:xy K mg cS fI dY)(cl:eh K C)(nP:bj K C "parts")(n1:bj K C "reg")(n2:bj K C "name") :
  aw P w K mg base az 2 f fd ["self","told"] (pI C "reg" "name"):=by
 have GI:aw P w K mg base az 1 fI dY ["self","told"] (vn K):=wZ I.fn I.tup;refine F.ok ah4 (λvs H Q E h=>?_) λaI A _ s H vs Q E hr h=>?_
 ·refine ni h λx dx a xs v1 v2 aa _=>?_;subst aa;rfl
 ·obtain⟨x,dx,a,xs,v1,v2,aa,hx,ha,e1,e2,k⟩:=h;subst aa;refine⟨_,ax (dQ (yW I.cf GI hr rfl I.at_ I.bi .nil aS (ae (pv 0) (ae (pv 1) ag)))) (ax (dr (pv 0) (aT du (pv 1) ay) rfl) (aB (dr (pv 0) (aT du (pv 1) ay) rfl))),?_⟩;have iO:a≠x:=gj ha hx (by intro z;cases z);refine vr rfl (vr rfl ⟨x,⟨C,dx,[],a,xs,rfl,hx,cl,nP,qc,ha,?_⟩⟩);refine vT (v:=v1) rfl (aE.of (by rw[aj iO];exact ha)) (dG (j:=1) e1) ⟨_,rfl,x,C,dx,_,rfl,au,cl,n1,zB _ _,?_⟩;refine vT (v:=v2) rfl (aE.of (by rw[aj iO,aj iO];exact ha)) (dG (j:=2) e2) ⟨_,rfl,x,C,dx,_,rfl,au,cl,n2,zA _ _ _ _,?_⟩;rw[nj,nj];exact k
theorem ah2:bg ["self","told"] ["self","told"] (aQ Ef):=bu
theorem agl{f fI cS C:Addr}{fd dY:aV}(F:aW K "__init__" "Swap.__init__" Ef f fd)(I:xy K mg cS fI dY)(cl:eh K C)(nP:bj K C "parts")(n1:bj K C "reg")(n2:bj K C "name") :
  aw P w K mg base az 2 f fd ["self","told"] (pI C "reg" "name"):=by
 have GI:aw P w K mg base az 1 fI dY ["self","told"] (vn K):=wZ I.fn I.tup;refine F.ok ah2 (λvs H Q E h=>?_) λaI A _ s H vs Q E hr h=>?_
 ·refine ni h λx dx a xs v1 v2 aa _=>?_;subst aa;rfl
 ·obtain⟨x,dx,a,xs,v1,v2,aa,hx,ha,e1,e2,k⟩:=h;subst aa;refine⟨_,ax (dQ (yW I.cf GI hr rfl I.at_ I.bi .nil aS (ae (pv 0) (ae (pv 1) ag)))) (ax (dr (pv 0) (aT du (pv 1) ay) rfl) (aB (dr (pv 0) (aT du (pv 1) ay) rfl))),?_⟩;have iO:a≠x:=gj ha hx (by intro z;cases z);refine vr rfl (vr rfl ⟨x,⟨C,dx,[],a,xs,rfl,hx,cl,nP,qc,ha,?_⟩⟩);refine vT (v:=v1) rfl (aE.of (by rw[aj iO];exact ha)) (dG (j:=1) e1) ⟨_,rfl,x,C,dx,_,rfl,au,cl,n1,zB _ _,?_⟩;refine vT (v:=v2) rfl (aE.of (by rw[aj iO,aj iO];exact ha)) (dG (j:=2) e2) ⟨_,rfl,x,C,dx,_,rfl,au,cl,n2,zA _ _ _ _,?_⟩;rw[nj,nj];exact k
theorem ah3:bg ["self","told"] ["self","told"] (aQ Eg):=bu
theorem agm{f fI cS C:Addr}{fd dY:aV}(F:aW K "__init__" "Skip.__init__" Eg f fd)(I:xy K mg cS fI dY)(cl:eh K C)(nP:bj K C "parts")(n1:bj K C "reg")(n2:bj K C "place") :
  aw P w K mg base az 2 f fd ["self","told"] (pI C "reg" "place"):=by
 have GI:aw P w K mg base az 1 fI dY ["self","told"] (vn K):=wZ I.fn I.tup;refine F.ok ah3 (λvs H Q E h=>?_) λaI A _ s H vs Q E hr h=>?_
 ·refine ni h λx dx a xs v1 v2 aa _=>?_;subst aa;rfl
 ·obtain⟨x,dx,a,xs,v1,v2,aa,hx,ha,e1,e2,k⟩:=h;subst aa;refine⟨_,ax (dQ (yW I.cf GI hr rfl I.at_ I.bi .nil aS (ae (pv 0) (ae (pv 1) ag)))) (ax (dr (pv 0) (aT du (pv 1) ay) rfl) (aB (dr (pv 0) (aT du (pv 1) ay) rfl))),?_⟩;have iO:a≠x:=gj ha hx (by intro z;cases z);refine vr rfl (vr rfl ⟨x,⟨C,dx,[],a,xs,rfl,hx,cl,nP,qc,ha,?_⟩⟩);refine vT (v:=v1) rfl (aE.of (by rw[aj iO];exact ha)) (dG (j:=1) e1) ⟨_,rfl,x,C,dx,_,rfl,au,cl,n1,zB _ _,?_⟩;refine vT (v:=v2) rfl (aE.of (by rw[aj iO,aj iO];exact ha)) (dG (j:=2) e2) ⟨_,rfl,x,C,dx,_,rfl,au,cl,n2,zA _ _ _ _,?_⟩;rw[nj,nj];exact k
structure aZ where
 (fW fB fS fO fI MZ M0 MY Ms Mq Mr amO lP lQ kI lB lA rW gq:Addr)
 (kU ow ou ue dY EL EM EK Es Ep Er:aV)
structure qk(K:W.Frag)(mg:Str->Option Value)(t:aZ):Prop where
 bl:Bl mg
 cn:Cn mg
 NS:aW K "is_whole" "is_whole" Bj t.fW t.kU
 bW:Binds K t.kU ["thing"] []
 mW:mg "is_whole" = some (.ref t.fW)
 fnB:aW K "bounds_of" "bounds_of" Be t.fB t.ow
 bB:Binds K t.ow ["word"] []
 mB:mg "bounds_of" = some (.ref t.fB)
 XW:aW K "is_step" "is_step" DZ t.fS t.ou
 bS:Binds K t.ou ["told"] []
 mS:mg "is_step" = some (.ref t.fS)
 NT:aW K "step_of" "step_of" Kh t.fO t.ue
 bO:Binds K t.ue ["told"] []
 mO:mg "step_of" = some (.ref t.fO)
 init:xy K mg t.amO t.fI t.dY
 ze:eh K t.rW
 aiI:bj K t.rW "parts"
 aiM:Mk K t.rW t.fI
 aiN:mg "Clear" = some (.ref t.rW)
 vy:eh K t.lP
 amw:bj K t.lP "parts"
 VV:bj K t.lP "reg"
 VT:bj K t.lP "number"
 amy:Mk K t.lP t.MZ
 VX:mg "Put" = some (.ref t.lP)
 amI:aW K "__init__" "Put.__init__" EB t.MZ t.EL
 amR:Binds K t.EL ["self","told"] []
 tV:eh K t.lQ
 amx:bj K t.lQ "parts"
 Mi:bj K t.lQ "reg"
 VU:bj K t.lQ "other"
 mkAdd:Mk K t.lQ t.M0
 VY:mg "Add" = some (.ref t.lQ)
 amJ:aW K "__init__" "Add.__init__" ED t.M0 t.EM
 amS:Binds K t.EM ["self","told"] []
 r6:eh K t.kI
 amv:bj K t.kI "parts"
 EH:bj K t.kI "name"
 VS:bj K t.kI "reg"
 mkSet:Mk K t.kI t.MY
 VW:mg "Set" = some (.ref t.kI)
 amH:aW K "__init__" "Set.__init__" EA t.MY t.EK
 amQ:Binds K t.EK ["self","told"] []
 rV:eh K t.lB
 akK:bj K t.lB "parts"
 U4:bj K t.lB "reg"
 Em:bj K t.lB "name"
 akO:Mk K t.lB t.Ms
 U6:mg "Look" = some (.ref t.lB)
 ak':aW K "__init__" "Look.__init__" Eh t.Ms t.Es
 aly:Binds K t.Es ["self","told"] []
 qj:eh K t.lA
 akI:bj K t.lA "parts"
 Lq:bj K t.lA "reg"
 El:bj K t.lA "name"
 akM:Mk K t.lA t.Mq
 U5:mg "Swap" = some (.ref t.lA)
 ak7:aW K "__init__" "Swap.__init__" Ef t.Mq t.Ep
 alw:Binds K t.Ep ["self","told"] []
 tQ:eh K t.gq
 akJ:bj K t.gq "parts"
 U3:bj K t.gq "reg"
 Lp:bj K t.gq "place"
 akN:Mk K t.gq t.Mr
 Ls:mg "Skip" = some (.ref t.gq)
 ak9:aW K "__init__" "Skip.__init__" Eg t.Mr t.Er
 alx:Binds K t.Er ["self","told"] []
def cZ(t:aZ)(x:Str):Addr:=if x = "put" then t.lP else if x = "add" then t.lQ else if x = "set" then t.kI else if x = "look" then t.lB else if x = "swap" then t.lA else if x = "clear" then t.rW else t.gq
def eM(v:V)(x:Str)(ps:List V):List (Str×V):=
 if x = "put" then aD "number" (ps.getD 1 .aJ) (aD "reg" (ps.getD 0 .aJ) (aD "parts" v []))
 else if x = "add" then aD "other" (ps.getD 1 .aJ) (aD "reg" (ps.getD 0 .aJ) (aD "parts" v []))
 else if x = "set" then aD "reg" (ps.getD 1 .aJ) (aD "name" (ps.getD 0 .aJ) (aD "parts" v []))
 else if x = "look" then aD "name" (ps.getD 1 .aJ) (aD "reg" (ps.getD 0 .aJ) (aD "parts" v []))
 else if x = "swap" then aD "name" (ps.getD 1 .aJ) (aD "reg" (ps.getD 0 .aJ) (aD "parts" v []))
 else if x = "clear" then aD "parts" v []
 else aD "place" (ps.getD 1 .aJ) (aD "reg" (ps.getD 0 .aJ) (aD "parts" v []))
theorem aiP{α:Type}{l:List α}(h:l.length=2):∃a b,l=[a,b]:=by
 cases l with
 | nil=>cases h
 | cons a t=>
  refine oE (PZ.mp (show t.length=1 from Ip h)) λb e=>?_;exact sv a b (by rw[e])
theorem xo{x:Str}{ps:List V}(h:stepOk (.str x::ps)=true){b c:Int}{bs:List Int}(hb:cD x=some bs)(hl:bs=[b,c]:=by rfl):∃v1 v2,ps=[v1,v2]:=by
 subst hl;have h':(match cD x with | none=>false | some bs=>decide (ps.length=bs.length)&&(ps.zip bs).all λp=>kN p.1 p.2)=true:=h;rw[hb]at h';simp only[fJ,decide_eq_true_eq]at h';exact aiP h'.1
theorem RS{x:Str}{ps:List V}(h:stepOk (.str x::ps)=true)(n1:¬x = "put")(n2:¬x = "add")(n3:¬x = "set")(n4:¬x = "look")(n5:¬x = "swap")(n6:¬x = "clear"):x = "skip":=by
 apply Classical.byContradiction;intro n7
 have e:cD x=none:=by
  unfold cD;rw[if_neg n1,if_neg n2,if_neg n3,if_neg n4,if_neg n5,if_neg n6,if_neg n7]
 have h':(match cD x with | none=>false | some bs=>decide (ps.length=bs.length)&&(ps.zip bs).all λp=>kN p.1 p.2)=true:=h;rw[e]at h';cases h'
theorem SE:bg ["told","word"] ["told"] (aQ Kh):=bu
end
end TL
namespace L2
open PySem PySem.Spec PyProof.Rows
section
variable{X:Cx}
theorem len_K(K:W.Frag)(h:X.K=K:=by rfl):mi X (.builtin "len") (λxs H Q=>∃p ys,xs=[.ref p]/\(av K H p ys\/aE K H p ys)/\Q (.int ys.length) H):=by subst h;exact iG
theorem EI(K:W.Frag)(h:X.K=K:=by rfl):B1 X (xA K):=by subst h;exact cI
theorem Mn(K:W.Frag)(h:X.K=K:=by rfl):B1 X (zy K):=by subst h;exact du
theorem amf(K:W.Frag)(h:X.K=K:=by rfl):BZ X (WA K):=by subst h;exact Ed
theorem amK{e:Expr}{f:Str}{pos:Pos}{ta:TE}(K:W.Frag)(he:PE X e ta)(hb:AH e f X.env (eval e X.env)=eval e X.env)(h:X.K=K:=by rfl):PE X (.Attribute e f pos) (EV K ta f):=by subst h;exact a6 he hb
end
end L2
namespace L2
open PySem
end L2
namespace L2
open PySem PySem.Spec PyProof.Rows L3
def xE(h:Heap)(e:Addr)(cls:Value)(dd:Option Addr)(tb:Value):Prop:=
 ∃oe vs a0,h.get? e=some oe/\oe.cls=cls/\oe.dict=dd/\oe.data=.fields vs/\vs[0]?=some a0/\vs[1]?=some tb/\(cls≠.ref WO->vs[2]?=some .none)
def BP(h:Heap)(e T:Addr)(fl:Value):Prop:=T≠e/\∃oT ts,h.get? T=some oT/\oT.data=.fields ts/\ts[3]?=some fl
def xY(h:Heap)(e:Addr)(cls:Value)(dd:Option Addr)(tb:Option Addr):Prop:=
 xE h e cls dd (tb.elim .none cb)/\∀T,tb=some T->BP h e T .none
def pH(h:Heap)(e:Addr)(cls:Value)(dd:Option Addr)(T:Addr)(fl:Value):Prop:=xE h e cls dd (.ref T)/\BP h e T fl
theorem xE.keep{h h':Heap}{e:Addr}{cls tb:Value}{dd:Option Addr}(x:xE h e cls dd tb)(k:∀o,h.get? e=some o->h'.get? e=some o):xE h' e cls dd tb:=
 let ⟨oe,vs,a0,q,r⟩:=x;⟨oe,vs,a0,k _ q,r⟩
theorem BP.keep{h h':Heap}{e T:Addr}{fl:Value}(x:BP h e T fl)(k:∀o,h.get? T=some o->h'.get? T=some o):BP h' e T fl:=
 let ⟨n,oT,ts,q,r⟩:=x;⟨n,oT,ts,k _ q,r⟩
theorem afC(o:Obj)(f:Array Value->Array Value):(o.mapFields f).dict=o.dict:=by
 obtain⟨c,d,dt,s⟩:=o;cases dt <;> rfl
section
variable{M:Model}{A:Around}{E:Value->Shared->Prop}{s:Shared}{base:Heap}{env:Env}{outer:List Env}{L e:Addr}{cls:Value}{dd:Option Addr}{Q:Unit->Shared->Prop}
theorem II{head:Value}{had:Bool}{oe:Obj}{vs:Array Value}{a0:Value}(gf:A.frames=some (env::outer))(hl:s.heap.FunFrames base (env::outer))(hf:env.frame=some L)(q:s.heap.get? e=some oe)(hc:oe.cls=cls)(oM:oe.dict=dd)
  (hd:oe.data=.fields vs) (h0:vs[0]?=some a0) (fu:1<vs.size) (qS:cls≠.ref WO->vs[2]?=some .none)
  (k:∀h' T,(∀b o,b∉gx (env::outer)->b≠e->s.heap.get? b=some o->h'.get? b=some o)->(∀b o,s.heap.get? b=some o->b≠e->∃sl,h'.get? b=some { o with slots:=sl })->s.heap.objs.size<=T->
   pH h' e cls dd T (rawInt L)->Q () { s with heap:=h' }) :
  wpAny M A (do let a <-frameOf env;let pl <-entryPlaceOf L had;let b <-aaK head a .none (rawInt L) .none pl;setField (.ref e) 1 b) Q E s:=by
 have i8:e∉gx (env::outer):=λz=>by
  refine oA (hl.mem z) λ_ aa=>?_;refine ah aa λo ho nf=>?_;rw[q]at ho;cases ho;exact nf vs hd
 refine aq (wpAny_frameOf_fun gf hl hf λh1 so=>?_);refine aq (wpAny_entryPlaceOf λpl hp=>?_);unfold aaK newFields;refine aq (uK ?_ (hp.sizeOk5 _ _ _ _ _));have q1:h1.get? e=some oe:=(so.2.1 e i8).trans q;generalize hz:({ cls:=.type "traceback",dict:=none,data:=.fields ([head,.ref L,.none,rawInt L,.none]++(if pl.isEmpty then dw 6 iI else pl)).toArray }:Obj)=ot;have q2:(h1.push ot).get? e=some oe:=bo _ q1;refine yM q2 hd fu ?_;have nT:h1.objs.size≠e:=tf (bJ q1);have d3:=yG hd (·.setIfInBounds 1 (cb h1.objs.size));have e3:=yF (rq (·.setIfInBounds 1 (cb h1.objs.size))) q2 (Hu d3);have fr:ot.isFreed=false:=by rw[<-hz];rfl
 have t3:((h1.push ot).update e (rq (·.setIfInBounds 1 (cb h1.objs.size)))).get? h1.objs.size=some ot:=by
  rw[qZ _ _ (dU nT)];exact gy h1 fr
 have kp:∀b o,b≠e->h1.get? b=some o->((h1.push ot).update e (rq (·.setIfInBounds 1 (cb h1.objs.size)))).get? b=some o:=λb o n z=>by
  rw[qZ _ _ (dU n)];exact bo _ z
 refine k _ h1.objs.size (λb o hb n z=>kp b o n ((so.2.1 b hb).trans z)) (λb o z n=>?_) (qb so.1.symm) (iq ⟨_,_,a0,e3,?_,?_,d3,?_,?_,λz=>by rw[aab qc];exact qS z⟩ nT ⟨ot,_,t3,by rw[<-hz],?_⟩)
 ·refine oE (so.2.2 b o z) λsl z1=>?_;exact⟨sl,kp b _ n z1⟩
 ·rw[aa4];exact hc
 ·rw[afC];exact oM
 ·rw[aab qc];exact h0
 ·simp[fu]
 ·first | (simp;done) | (rcases hp with rfl | ⟨_,_,_,_,_,_,_,rfl⟩ <;> simp)
theorem IX{tb:Option Addr}(gf:A.frames=some (env::outer))(hl:s.heap.FunFrames base (env::outer))(hf:env.frame=some L)(x:xY s.heap e cls dd tb)
  (k:∀h' T,(∀b o,b∉gx (env::outer)->b≠e->tb≠some b->s.heap.get? b=some o->h'.get? b=some o)->(∀b o,s.heap.get? b=some o->b≠e->tb≠some b->∃sl,h'.get? b=some { o with slots:=sl })->s.heap.objs.size<=T->
   pH h' e cls dd T (rawInt L)->Q () { s with heap:=h' }):wpAny M A (uY (.ref e) env) Q E s:=by
 refine oA x λaa ht=>?_;obtain⟨oe,vs,a0,q,hc,oM,hd,h0,h1,qS⟩:=aa;have fu:1<vs.size:=(Av.mp h1).1;unfold uY;simp only[hf];cases tb with
 | none=>
  refine aq (iH q hd h1 ?_);rw[if_neg qc];exact II gf hl hf q hc oM hd h0 fu qS λh' T a b c d=>k h' T (λx o y z _=>a x o y z) (λx o y z _=>b x o y z) c d
 | some T0=>
  refine oA (ht T0 rfl) λnT aa=>?_;refine cG aa λoT ts qT dT t3=>?_;refine aq (iH q hd h1 ?_);show wpAny M A (if (cb T0 != iI)=true then _ else _) Q E s;rw[if_pos (by simp)];refine aq (iH qT dT t3 ?_);rw[if_neg (show ¬((iI == rawInt L)=true) by simp[rawInt])];refine aq (yM qT dT (Av.mp t3).1 ?_);have mJ:∀b,b≠T0->(s.heap.update T0 (rq (·.setIfInBounds 3 iI))).get? b=s.heap.get? b:=λb n=>qZ _ _ (dU n);refine II (s:={ s with heap:=s.heap.update T0 (rq (·.setIfInBounds 3 iI)) }) gf (hl.of_keeps λb o z nf=>⟨o,(mJ b λw=>?_).trans z,rfl⟩) hf ((mJ e (dU nT)).trans q) hc oM hd h0 fu qS λh' T a b c d=>?_
  ·rw[w,qT]at z;cases z;exact nf ts dT
  ·refine k h' T (λx o y z n w=>a x o y z ((mJ x λv=>n (by rw[v])).trans w)) (λx o w z n=>b x o ((mJ x λv=>n (by rw[v])).trans w) z) ?_ d;have c':(s.heap.update T0 (rq (·.setIfInBounds 3 iI))).objs.size<=T:=c;rw[aaz]at c';exact c'
theorem yS{T:Addr}{fl:Value}(x:pH s.heap e cls dd T fl)(k:∀h',(∀b o,b≠T->s.heap.get? b=some o->h'.get? b=some o)->xY h' e cls dd (some T)->Q () { s with heap:=h' }) :
  wpAny M A (AZ (.ref e) none) Q E s:=by
 refine gH x λaa nT bc=>?_;obtain⟨oe,vs,a0,q,hc,oM,hd,h0,h1,qS⟩:=aa;refine cG bc λoT ts qT dT t3=>?_;have s3:3<ts.size:=(Av.mp t3).1;unfold AZ;refine aq (iH q hd h1 ?_);rw[if_pos (show (cb T != iI)=true by simp)];have mJ:∀b,b≠T->(s.heap.update T (rq (·.setIfInBounds 3 ((none:Option Addr).elim iI λf=>rawInt f)))).get? b=s.heap.get? b:=λb n=>qZ _ _ (dU n);refine yM qT dT s3 (k _ (λb o n z=>(mJ b n).trans z) ⟨⟨oe,vs,a0,(mJ e (dU nT)).trans q,hc,oM,hd,h0,h1,qS⟩,λT' z=>?_⟩);cases z;exact⟨nT,⟨_,_,yF _ qT (Hu (yG dT _)),yG dT _,by simp[s3]⟩⟩
end
def dg(P:Program)(w:World):nI:=λouter H s E e s'=>∃ea c dd T H',e=.ref ea/\s'.os=s.os/\AllBare s'.gens/\Un (gx outer) [] H H' s.heap s'.heap/\eX P w H' s'.heap/\xY s'.heap ea c dd (some T)/\
 s.heap.objs.size<=ea/\s.heap.objs.size<=T/\H' ea=none/\H' T=none/\E c dd H'
structure xu(X:Cx)(p_:List (Addr×Obj))(σ:St)(H:Hp)(s:Shared)(ea:Addr)(c:Value)(dd tb:Option Addr):Prop where
 inv:Inv X p_ σ H s
 xR:xY s.heap ea c dd tb
 fe:cV X p_ H ea
 ft:∀T,tb=some T->cV X p_ H T
abbrev WX:=St->XK
def pC(X:Cx)(W:WX):Prop:=∀(p_:List (Addr×Obj)) (σ:St) (H:Hp) (s:Shared) (ea:Addr) (c:Value) (dd tb:Option Addr),xu X p_ σ H s ea c dd tb->W σ c dd H->X.xe (.ref ea) s
section
variable{X:Cx}{p_:List (Addr×Obj)}{σ:St}{H:Hp}{s:Shared}
theorem DB{h':Heap}{ch:List Addr}(I:Inv X p_ σ H s)(hc:∀b∈ch,H b=none)(k:∀b o,b∉gx X.stack->b∉ch->s.heap.get? b=some o->h'.get? b=some o):eX X.prog X.w H h':=λb u e=>by
 refine(I.aG b u e).pG (λd v hd q=>k d v (λz=>?_) (λz=>?_) q) (λ_ q=>q) λ_ _ q=>q
 ·have n:=I.DW d z;rcases hd with w | w
  ·rw[w,e]at n;cases n
  ·rw[w]at n;cases n
 ·have n:=hc d z;rcases hd with w | w
  ·rw[w,e]at n;cases n
  ·rw[w]at n;cases n
theorem SV{P:Program}{w:World}{K:PySem.W.Frag}{mg:Str->Option Value}{base:Heap}{N:List Str}{qual:Str}{scope:Scope}{f:Addr}{cd:Value}{A:Around}{outer:List Env}{s0:Shared}{H0:Hp}{E:XK} :
  pC (jj (dg P w) P w K mg base N qual scope f cd A outer s0 H0 E) (λ_=>E):=by
 intro p_ σ H s ea c dd tb x hE;show wpAny (model P w) (A.deeper (envOfC qual scope s0.heap.objs.size f cd)) (leaving (envOfC qual scope s0.heap.objs.size f cd) (.ref ea)) (λ_ oC=>dg P w outer H0 s0 E (.ref ea) oC) (λe' oC=>dg P w outer H0 s0 E e' oC) s;have I:=x.inv
 have CQ:s0.heap.objs.size<=ea:=by
  rcases x.fe.2.2.2.1 with z | z
  ·exact absurd (show ea∈([]:List Addr) from z) (by simp)
  ·exact z
 have tN:∀T,tb=some T->s0.heap.objs.size<=T:=λT z=>by
  rcases(x.ft T z).2.2.2.1 with y | y
  ·exact absurd (show T∈([]:List Addr) from y) (by simp)
  ·exact y
 unfold leaving;refine aq (IX (base:=base) I.ok.frames I.stack rfl x.xR λh1 T k1 k2 hT pU=>?_);refine yS pU λh2 k3 uE=>?_;have qM:∀{b:Addr} {o:Obj},s0.heap.get? b=some o->b<s0.heap.objs.size:=λe=>bJ e;have sN:s0.heap.objs.size<=s.heap.objs.size:=I.sz;have Od:∀{b:Addr},b<s0.heap.objs.size->b≠T:=λh z=>absurd (eK h (cu sN hT)) (by rw[z];exact iQ _);have yh:∀{b:Addr},b<s0.heap.objs.size->b≠ea:=λh z=>absurd (eK h CQ) (by rw[z];exact iQ _);have yi:∀{b:Addr},b<s0.heap.objs.size->tb≠some b:=λh z=>absurd (eK h (tN _ z)) (iQ _)
 have Oe:∀{b:Addr},b<s0.heap.objs.size->b∉gx outer->b∉gx (envOfC qual scope s0.heap.objs.size f cd::outer):=λh z y=>by
  rcases I.Bg _ y |> bq.mp with u | u
  ·exact absurd h (by rw[u];exact iQ _)
  ·exact z u
 have sJ:∀{b:Addr} {o:Obj},s.heap.get? b=some o->b≠T:=λe z=>absurd (eK (bJ e) hT) (by rw[z];exact iQ _)
 have Np:eX P w H h2:=by
  refine DB (ch:=ea::tb.toList) I (λb hb=>?_) λb o hb hc e=>k3 b o (sJ e) (k1 b o hb (λz=>hc (by rw[z];exact dE)) (λz=>hc (dn _ (by rw[z];simp))) e);rcases bq.mp hb with z | z
  ·rw[z];exact x.fe.1
  ·cases tb with
   | none=>simp at z
   | some T0=>
    have z':b=T0:=by simpa using z
    rw[z'];exact(x.ft T0 rfl).1
 refine⟨ea,c,dd,T,H,rfl,I.os,I.bare,⟨λb o e n hb hx=>?_,λb o e n hb hx=>?_,I.base.free,λb o e hx=>?_,I.base.og,I.base.nA,I.base.nv⟩,Np,uE,CQ,(cu sN hT),x.fe.1,⟨I.aG.fresh hT,hE⟩⟩
 ·have l:=qM e;exact k3 b o (Od l) (k1 b o (Oe l hb) (yh l) (yi l) (I.base.keep b o e n hb hx))
 ·have l:=qM e;refine oE (I.base.slot b o e n hb hx) λsl q=>?_;refine oE (k2 b _ q (yh l) (yi l)) λwc q'=>?_;exact⟨wc,k3 b _ (Od l) q'⟩
 ·have l:=qM e;refine oE (I.base.there b o e hx) λo' q=>?_;refine oE (k2 b _ q (yh l) (yi l)) λwc q'=>?_;exact⟨_,k3 b _ (Od l) q'⟩
theorem Rt{E:XK}{e:Value}{s':Shared}(I:Inv X p_ σ H s)(h:dg X.prog X.w X.stack H s E e s'):∃ea c dd T H',e=.ref ea/\xu X p_ σ H' s' ea c dd (some T)/\E c dd H':=by
 obtain⟨ea,c,dd,T,H',aa,os,bare,un,aG,bc⟩:=h;subst aa;refine md bc λfl l1 l2 n1 n2 q=>?_;exact⟨ea,c,dd,T,H',rfl,⟨I.Mu os un aG bare λb z=>absurd z (by simp),fl,I.fo l1 n1,λT' z=>by cases z;exact I.fo l2 n2⟩,q⟩
end
def akb(sp:Sp)(dvs:List V)(W:WX)(t:TA):TE:=λσ H Q=>t σ H λvs H1=>sp (vs++dvs) H1 Q (W σ)
section
variable{X:Cx}{k:Nat}{f C:Addr}{fd:aV}{ps:List Str}{sp:Sp}{dvs:List V}{ds:List Value}{W:WX}{x m:Str}{p pos apos:Pos}{e o:Expr}{es:List Expr}{ta:TE}{t:TA}{P:Program}{w:World}
theorem aia{p_:List (Addr×Obj)}{σ:St}{H:Hp}{s:Shared}{Q:VK}{us:List Value}{vs:List V}(F:aw X.prog X.w X.K X.mg X.base (dg X.prog X.w) k f fd ps sp)(hr:dX k X.A)(hb:Binds X.K fd ps ds)(hd:Vals dvs ds)(hx:pC X W)
  (I:Inv X p_ σ H s) (r:Vals vs us) (h:sp (vs++dvs) H Q (W σ)):wpAny (model X.prog X.w) X.A (call (.ref f) us) (EP X p_ σ Q) X.xe s:=by
 have r2:Vals (vs++dvs) (us++ds):=r.append hd;have hl:(us++ds).length=ps.length:=by rw[<-r2.length];exact F.len _ _ _ _ h
 refine rE (wN (F.run X.A X.stack s H ⟨us,[]⟩ (us++ds) (vs++dvs) Q (W σ) hr I.BL (hb s us I.cH hl) r2 h) λr s' hq=>?_);cases r with
 | error e=>
  obtain⟨ea,c,dd,T,H',aa,x,hE⟩:=Rt I hq;subst aa;exact hx _ _ _ _ _ _ _ _ x hE
 | ok fl=>
  cases fl with
  | ret u=>exact I.after hq
  | next=>exact gA hq
  | brk=>exact gA hq
  | cont=>exact gA hq
theorem JC(F:aw P w X.K X.mg X.base (dg P w) k f fd ps sp)(hr:dX k X.A)(hL:pC X W)(hg:Gl X x)(hm:X.mg x=some (.ref f))(hk:PySem.W.keepIn X.K (.ref f)=true)(hb:Binds X.K fd ps ds)(hd:Vals dvs ds)
  (ha:PA X (e::es) t) (hP:X.prog=P:=by rfl) (hw:X.w=w:=by rfl) (jZ:(x == ("__debug__" : Str))=false:=by decide) (he:cg (e::es) X.env=(false,eval e X.env)::cg es X.env:=by rfl) (dO:(backTo pos (cg es X.env)).any (·.1)=false:=by rfl) :
  PE X (.Call (.Name x p) (e::es) [] pos) (akb sp dvs W t):=by
 subst hP hw;intro p_ s σ H Q I h;refine uI (nU I hg hm ?_ jZ);refine PySem.W.callWith_K (h₀:=X.base) I.ok.mod.oq hk (aO (ha pos p_ s σ H _ I h) λus s1 ⟨vs,H1,I1,r,q⟩=>⟨I1.cH,?_⟩) he dO;exact aia F hr hb hd hL I1 r q
end
section
variable{P:Program}{w:World}{K:PySem.W.Frag}{mg:Str->Option Value}{base:Heap}
theorem aW.xM{x qual:Str}{st:Stmt}{f:Addr}{fd:aV}{N ps:List Str}{k:Nat}{sp:Sp}(F:aW K x qual st f fd)(S:bg N ps (aQ st))(len:∀vs H Q E,sp vs H Q E->vs.length=ps.length)
  (qw:∀(aI:Value) (A:Around) (outer:List Env) (s:Shared) (H:Hp) (vs:List V) (Q:VK) (E:XK),dX k (A.deeper (envOfC qual (aQ st) s.heap.objs.size f aI))->
   pC (jj (dg P w) P w K mg base N qual (aQ st) f aI A outer s H E) (λ_=>E)->
   lM (model P w) (A.deeper (envOfC qual (aQ st) s.heap.objs.size f aI)) (envOfC qual (aQ st) s.heap.objs.size f aI) (jj (dg P w) P w K mg base N qual (aQ st) f aI A outer s H E).xe->sp vs H Q E->
   ∃t,eE (jj (dg P w) P w K mg base N qual (aQ st) f aI A outer s H E) (hX st) t/\t { nx:=λ_ H'=>Q .aJ H',rt:=Q } (start N vs) H):aw P w K mg base (dg P w) (k+1) f fd ps sp:=by
 obtain⟨oc,od,kV,doc,pm,an,aI,ct,iN,aa,lk,gU⟩:=F.ex;subst aa;exact tT lk gU S len λA outer s H vs Q E hr nM=>qw aI A outer s H vs Q E hr SV lM.leaving nM
end
end L2
namespace L2
open PySem PySem.Spec PyProof.Rows L3
open Sem (wp)
def sE(h:Heap)(C:Addr)(oi:Option Value):Prop:=∃nm q N bs bm vN sn sub ab col dd k0 k1 k2 k3 k5 mN,h.get? C=some (excClassObj nm q C N bs bm vN sn sub ab col dd k0 k1 k2 k3 k5 "ValueError.__new__")/\h.Ns N mN/\mN "__init__" = oi/\OwnTail h vE bm
theorem sE.keeps{h h':Heap}{C:Addr}{oi:Option Value}(x:sE h C oi)(k:∀b o,h.get? b=some o->h'.get? b=some o):sE h' C oi:=by
 refine l0 x λnm q N bs bm vN sn sub ab col aa=>?_;obtain⟨dd,k0,k1,k2,k3,k5,mN,hC,hN,hi,T⟩:=aa;exact⟨nm,⟨q,N,bs,bm,vN,sn,sub,ab,col,dd,k0,k1,k2,k3,k5,mN,k _ _ hC,hN.keeps k,hi,T.keeps k⟩⟩
def Fe(K:W.Frag)(C:Addr):Prop:=W.excIn K C vE "ValueError.__new__" = true
theorem Fe.at{K:W.Frag}{C:Addr}{h:Heap}(x:Fe K C)(X:K.In h):sE h C none:=by
 unfold Fe W.excIn at x
 split at x
 ·rename_i dd cd sl ho
  split at x
  ·rename_i C' bm k0 k1 k2 k3 n k5 hm hs
   simp only[fJ,beq_iff_eq,aa7]at x;refine oA x λaa Cr=>?_;refine oA aa λaa aG=>?_;refine oA aa λaa ht=>?_;refine oA aa λaa BU=>?_;refine oA aa λe1 e2=>?_;subst e1 e2;obtain⟨nm,bs,mro,ns,qn,hd,sn,sub,ab,col,del⟩:=cd;dsimp only at hm BU aG Cr;subst hm BU
   have OK:sl=#[k0,k1,k2,k3,some (.builtin "ValueError.__new__"),k5]:=by
    obtain⟨l⟩:=sl;exact congrArg DT hs
   subst OK;exact⟨nm,⟨qn,ns,bs,bm,hd,sn,sub,ab,col,dd,k0,k1,k2,k3,k5,_,X _ _ ho,.of_isNs (W.isNs_of_in X aG),W.nsMap_none_of_in X aG Cr,W.tail_of_in X ht⟩⟩
  ·cases x
 ·cases x
section
variable{prog:Program}{w:World}{A:Around}{E:Value->Shared->Prop}{h:Heap}{g:Array GenState}{d:Drawn}{t:Nat}{os:OsState}{C:Addr}
abbrev newX(C t:Addr):Obj:={ cls:=.ref C,data:=.fields #[.ref t,.none,.none,.none,.bool false,.none] }
abbrev BO(us:List Value):Obj:={ cls:=.type "tuple",data:=.seq us.toArray }
theorem ahx{us:List Value}{Q:Fin->Shared->Prop}(x:sE h C none)(hz:us.length<=aP)
  (hq:∀h' t',(∀b o,h.get? b=some o->h'.get? b=some o)->h'.get? (h.objs.size+1)=some (newX C t')->Q (.done (.ret (.ref (h.objs.size+1)))) ⟨h',g,d,t,os⟩) :
  wpAny (model prog w) A (Builtin.«type.__call__» ⟨.ref C::us,[]⟩) Q E ⟨h,g,d,t,os⟩:=by
 refine l0 x λnm q N bs bm vN sn sub ab col aa=>?_;obtain⟨dd,k0,k1,k2,k3,k5,mN,hC,hN,hi,T⟩:=aa;have Fv:=PySem.F.excBase_ValueError
 repeat (first | (with_reducible refine uM hC ?_) | (with_reducible refine wpAny_madeBy_exc hC ?_) | wp_step)
 refine aao (Hy _ Fv.quiet) (wpAny_check_new_subU Fv rfl T hC (codeAny_exc_new_subU Fv rfl Fv T hC ?_ hz));show wpAny _ _ _ _ _ _;have kk:∀b o,h.get? b=some o->((h.push { cls:=.type "tuple",data:=.seq us.toArray }).push { cls:=.ref C,data:=.fields #[.ref h.objs.size,.none,.none,.none,.bool false,.none] }).get? b=some o:=λb o z=>bo _ (bo _ z);have c1:=kk _ _ hC;have n1:=hN.keeps kk;have T1:=T.keeps kk;have ge:((h.push { cls:=.type "tuple",data:=.seq us.toArray }).push { cls:=.ref C,data:=.fields #[.ref h.objs.size,.none,.none,.none,.bool false,.none] }).get? (h.objs.size+1)=some { cls:=.ref C,data:=.fields #[.ref h.objs.size,.none,.none,.none,.bool false,.none] }:=by heap_get
 have cc:(cb C::bm).contains (.ref C)=true:=by simp
 unfold AO
 repeat (first | (with_reducible refine uM ge ?_) | (with_reducible refine P6 c1 ?_;rw[cc]) | wp_step)
 show wpAny _ _ (Dt (.ref C) _) _ _ _;refine wpAny_typeLookup_tail c1 n1 T1 Fv.mroIs Fv.init.lookup ?_;rw[hi];refine ng (aq (wpAny_of_eq (Fv.init.bind _) (aq (rE (P5 Fv.init.plain Fv.initEntry (wpAny_check_init_subU Fv T1 c1 ge rfl ?_))))))
 wp_walk
 refine hq _ (h.objs.size+2) (λb o z=>?_) ?_
 ·rw[qZ _ _ (tf (Qb (bJ z)))];exact bo _ (kk b o z)
 ·rw[yF _ (bo _ ge) rfl];simp only[m8];rfl
theorem ahy{us:List Value}{Q:Value->Shared->Prop}(x:sE h C none)(hz:us.length<=aP)
  (hq:∀h' t',(∀b o,h.get? b=some o->h'.get? b=some o)->h'.get? (h.objs.size+1)=some (newX C t')->Q (.ref (h.objs.size+1)) ⟨h',g,d,t,os⟩) :
  wpAny (model prog w) A (call (.ref C) us) Q E ⟨h,g,d,t,os⟩:=by
 refine l0 (id x) λnm q N bs bm vN sn sub ab col aa=>?_;obtain⟨dd,k0,k1,k2,k3,k5,mN,hC,r⟩:=aa;have f1:=tc_lookup;have f2:=tc_bind (.ref C);have hT:(⟨h,g,d,t,os⟩:Shared).TypeIs (.ref C) "type":=⟨_,hC,rfl⟩;refine rE (codeAny_of_tree ?_);show wpAny _ _ (callAny (.ref C) _) _ _ _
 repeat (any_goals (first | assumption | (with_reducible refine uM hC ?_) | wp_step))
 exact⟨rfl,aau (Hy _ dk) entry_typeCall (aam hC (ahx x hz λh' t' k q=>hq h' t' k q))⟩
end
section
variable{M:Model}{A:Around}{E:Value->Shared->Prop}{s:Shared}{env:Env}{C:Addr}
theorem Q6{x:Sem Value}{Q:Flow->Shared->Prop}(hh:A.handled=none)
  (k:wpAny M A x (λv s1=>∃e oe vs a0 oi,v=.ref e/\sE s1.heap C oi/\s1.heap.get? e=some oe/\oe.cls=.ref C/\oe.data=.fields vs/\vs[0]?=some a0/\vs[1]?=some .none/\E (.ref e) s1) E s) :
  wpAny M A (raiseStmt env (some x) none) Q E s:=by
 unfold raiseStmt;refine aq (iA k (λv s1 z=>?_) λ_ _ y=>y);obtain⟨e,oe,vs,a0,oi,aa,bc,he,hc,hd,FN⟩:=z;subst aa;refine l0 bc λnm q N bs bm vN sn sub ab col aa=>?_;obtain⟨dd,k0,k1,k2,k3,k5,mN,hC,hN,hi,T⟩:=aa;refine gH FN λh0 h1 hE=>?_;have cB:(cb C::bm).contains (.type "BaseException")=true:=by rw[List.contains_cons,T.hasType (show vE.contains (.type "BaseException")=true from rfl),Bool.or_true]
 obtain⟨oc,od,oda,iN⟩:=oe;dsimp only at hc hd;subst hc hd;obtain⟨hp,g,d,tk,os⟩:=s1
 repeat (first | (with_reducible refine uM he ?_) | (with_reducible refine uM hC ?_) | (with_reducible refine P6 hC ?_;rw[cB]) | wp_step)
 rw[h1];refine aN ?_;rw[if_neg qc];exact aN (wpAny_raiseNew_none hh hE)
end
end L2
namespace L2
open PySem PySem.Spec PyProof.Rows L3
structure XC(K:PySem.W.Frag)(C:Addr):Prop where
 exc:Fe K C
 kp:PySem.W.keepIn K (.ref C)=true
def aj7(C:Addr)(W:WX)(t:TA):TS:=λ_ σ H=>t σ H λvs H1=>vs.length<=aP/\W σ (.ref C) none H1
section
variable{X:Cx}{W:WX}{C:Addr}{x:Str}{np mw pos:Pos}{e:Expr}{es:List Expr}{t:TA}
theorem A8(hc:X.calm=true)(hL:pC X W)(xc:XC X.K C)(hg:Gl X x)(hm:X.mg x=some (.ref C))(ha:PA X (e::es) t)(jZ:(x == ("__debug__" : Str))=false:=by decide)
  (he:cg (e::es) X.env=(false,eval e X.env)::cg es X.env:=by rfl) (dO:(backTo mw (cg es X.env)).any (·.1)=false:=by rfl) :
  PS X (.Raise (some (.Call (.Name x np) (e::es) [] mw)) none pos) (aj7 C W t):=by
 intro p_ s σ H D I h;rw[arm_exec_Raise];refine aq (yN (Q6 (C:=C) (I.ok.hd hc) (aq (iA ?_ (λv s3 z=>aq (yN (aN z))) λ_ _ y=>y))));refine uI (nU I hg hm ?_ jZ);refine PySem.W.callWith_K (h₀:=X.base) I.ok.mod.oq xc.kp (aO (ha mw p_ s σ H _ I h) λus s1 ⟨vs,H1,I1,r,hz,q⟩=>⟨I1.cH,?_⟩) he dO;have xa:=xc.exc.at I1.cH;obtain⟨h1,g1,d1,t1,YE⟩:=s1;refine ahy xa (by rw[uQ,<-r.length];exact hz) λh' t' k ge=>?_;have I2:=I1.kept (t':=t1) k;refine cY _ _ _ _ (⟨_,rfl,(xa.keeps k),ge,rfl,rfl,rfl,rfl,(hL _ _ _ _ _ _ _ (tb:=none) ⟨I2,⟨⟨_,_,_,ge,rfl,rfl,rfl,rfl,rfl,λ_=>rfl⟩,λT z=>by cases z⟩,I1.fo (jq _) (I1.aG.fresh (jq _)),λT z=>by cases z⟩ q)⟩)
end
section
variable{M:Model}{A:Around}{E:Value->Shared->Prop}{s:Shared}
theorem wV{K:PySem.W.Frag}{ea:Addr}{c cv tb:Value}{dd:Option Addr}{b:Bool}{Q:Bool->Shared->Prop}(X:K.In s.heap)(he:xE s.heap ea c dd tb)(hb:PySem.W.kitCls K c cv=some b)(hx:PySem.W.kitCls K cv (.type "BaseException")=some true)
  (hq:Q b s):wpAny M A (excMatches (.ref ea) cv) Q E s:=by
 refine gH (PySem.W.kit_cls (M:=M) X hb) λl1 l2 l3=>?_;refine gH (PySem.W.kit_cls (M:=M) X hx) λ_ _ m3=>?_;refine kA he λoe vs a0 q hc _=>?_;have nt:=tc_notTuple;unfold excMatches AO;refine aq (aq (l1.at ?_));rw[nt];refine aN ?_;rw[if_neg dh];refine aq (aN ?_);simp only[yL,List.forIn_nil];unfold isExcClass;refine aq (aq (aq (aq (l2.at ?_))));rw[if_pos rfl];refine m3.at ?_;simp only[Bool.not_true,wI,if_false];refine aN (aN ?_);obtain⟨hp,g,d,tk,os⟩:=s;unfold typeOf;refine aq (aq ?_);refine uM q (aN ?_);rw[hc];refine aq (aq (aq (l3.at ?_)));cases b with
 | true=>exact aN (aN (aN hq))
 | false=>exact aN (aN (aN hq))
end
abbrev Cx.body(X:Cx)(pn:List (Addr×Obj))(E:Value->Shared->Prop):Cx:={ X with pn:=pn,xe:=E }
abbrev Cx.iZ(X:Cx)(ea:Addr)(pn:List (Addr×Obj)):Cx:={ X with A:=X.A.mark (some (.ref ea)),calm:=false,pn:=pn,xe:=λ_ _=>False }
section
variable{X:Cx}{p_ pl:List (Addr×Obj)}{σ:St}{H:Hp}{s:Shared}{ea:Addr}{E:Value->Shared->Prop}
theorem air(ok:X.Ok)(pn:List (Addr×Obj))(E:Value->Shared->Prop):(X.body pn E).Ok:=
 ⟨ok.mod,ok.kind,ok.glob,ok.blt,ok.above,ok.inj,ok.has,ok.uh,ok.hd,ok.frames,ok.vQ,ok.sD,ok.bs,ok.lV,ok.tY,ok.sj,ok.lO,ok.qH⟩
theorem aeM{pn:List (Addr×Obj)}(ok:(X.body pn E).Ok):X.Ok:=
 ⟨ok.mod,ok.kind,ok.glob,ok.blt,ok.above,ok.inj,ok.has,ok.uh,ok.hd,ok.frames,ok.vQ,ok.sD,ok.bs,ok.lV,ok.tY,ok.sj,ok.lO,ok.qH⟩
theorem agh(ok:X.Ok)(ea:Addr)(pn:List (Addr×Obj)):(X.iZ ea pn).Ok:=
 ⟨ok.mod,ok.kind,ok.glob,ok.blt,ok.above,ok.inj,ok.has,ok.uh,λz=>(by cases z),ok.frames,ok.vQ,ok.sD,ok.bs,ok.lV,ok.tY,ok.sj,ok.lO,ok.qH⟩
theorem Inv.body(I:Inv X p_ σ H s)(E:Value->Shared->Prop):Inv (X.body (X.pn++p_) E) [] σ H s:=
 ⟨air I.ok _ E,I.os,I.bare,I.base,I.loc,I.cell,I.free,I.jy,λp hp=>I.pin p (by simpa using hp),I.aG,I.len⟩
theorem Inv.tL(I:Inv (X.body (X.pn++p_) E) pl σ H s):Inv X p_ σ H s:=
 ⟨aeM I.ok,I.os,I.bare,I.base,I.loc,I.cell,I.free,I.jy,λp hp=>I.pin p (oS _ hp),I.aG,I.len⟩
theorem Inv.iZ(I:Inv X p_ σ H s)(ea:Addr):Inv (X.iZ ea (X.pn++p_)) [] σ H s:=
 ⟨agh I.ok ea _,I.os,I.bare,I.base,I.loc,I.cell,I.free,I.jy,λp hp=>I.pin p (by simpa using hp),I.aG,I.len⟩
theorem Inv.vc(ok:X.Ok)(I:Inv (X.iZ ea (X.pn++p_)) pl σ H s):Inv X p_ σ H s:=
 ⟨ok,I.os,I.bare,I.base,I.loc,I.cell,I.free,I.jy,λp hp=>I.pin p (oS _ hp),I.aG,I.len⟩
theorem cV.body{b:Addr}(f:cV (X.body (X.pn++p_) E) pl H b):cV X p_ H b:=
 ⟨f.1,f.2.1,f.2.2.1,f.2.2.2.1,f.2.2.2.2.1,λp hp=>f.2.2.2.2.2 p (oS _ hp)⟩
theorem SP.tL{D:Ends}{f:Flow}(h:SP (X.body (X.pn++p_) E) pl D f s):SP X p_ D f s:=by
 cases f with
 | next=>obtain⟨σ',H',I,q⟩:=h;exact⟨σ',H',I.tL,q⟩
 | brk=>obtain⟨σ',H',I,q⟩:=h;exact⟨σ',H',I.tL,q⟩
 | cont=>obtain⟨σ',H',I,q⟩:=h;exact⟨σ',H',I.tL,q⟩
 | ret u=>obtain⟨v,σ',H',I,r,q⟩:=h;exact⟨v,σ',H',I.tL,r,q⟩
theorem RP{c:Value}{dd tb:Option Addr}{Q:Unit->Shared->Prop}{E':Value->Shared->Prop}(hs:X.stack=X.env::X.outer)(hf:X.env.frame=some X.env.locals)(x:xu X p_ σ H s ea c dd tb)
  (k:∀h' T,Inv X p_ σ H { s with heap:=h' }->xY h' ea c dd (some T)->cV X p_ H ea->cV X p_ H T->Q () { s with heap:=h' }) :
  wpAny (model X.prog X.w) X.A (uY (.ref ea) X.env) (λ_ s2=>wpAny (model X.prog X.w) X.A (AZ (.ref ea) none) Q E' s2) E' s:=by
 have I:=x.inv;have st:=I.stack;have fr:=I.ok.frames;rw[hs]at st fr;refine IX (base:=X.base) fr st hf x.xR λh1 T k1 k2 hT pU=>?_;refine yS pU λh2 k3 uE=>?_;have sJ:∀{b:Addr} {o:Obj},s.heap.get? b=some o->b≠T:=λe z=>absurd (eK (bJ e) hT) (by rw[z];exact iQ _)
 have ja:∀b∈ea::tb.toList,cV X p_ H b:=λb hb=>by
  rcases bq.mp hb with z | z
  ·rw[z];exact x.fe
  ·cases tb with
   | none=>simp at z
   | some T0=>
    have z':b=T0:=by simpa using z
    rw[z'];exact x.ft T0 rfl
 have n1:∀{b:Addr},b∉ea::tb.toList->b≠ea:=λh z=>h (by rw[z];exact dE);have n2:∀{b:Addr},b∉ea::tb.toList->tb≠some b:=λh z=>h (dn _ (by rw[z];simp));have kk:∀b o,b∉gx X.stack->b∉ea::tb.toList->s.heap.get? b=some o->h2.get? b=some o:=λb o hb hc e=>k3 b o (sJ e) (k1 b o (by rw[<-hs];exact hb) (n1 hc) (n2 hc) e)
 have ks:∀b o,b∉ea::tb.toList->s.heap.get? b=some o->∃sl,h2.get? b=some { o with slots:=sl }:=λb o hc e=>by
  refine oE (k2 b o e (n1 hc) (n2 hc)) λsl q=>?_;exact⟨sl,k3 b _ (sJ e) q⟩
 have I2:Inv X p_ σ H { s with heap:=h2 }:=I.call (g':=s.gens) (d':=s.drawn) (t':=s.toks) (ch:=ea::tb.toList)
  ⟨λb o e n hb hx=>kk b o hb hx e,λb o e n hb hx=>ks b o hx e,λ_ _ _ n _=>n,λb o e hx=>let ⟨sl,q⟩:=ks b o hx e;⟨_,q⟩,λ_ _ e=>e,λ_ _ _ e=>e,λb ps e=>⟨#[],by rw[e];simp⟩⟩
  (DB I (λb hb=>(ja b hb).1) kk) I.bare λb hb=>⟨(ja b hb).2.2.2.1,(ja b hb).2.1,(ja b hb).2.2.2.2.1,(ja b hb).2.2.2.2.2⟩
 exact k h2 T I2 uE x.fe (I.fo hT (I.aG.fresh hT))
end
def pL(ea:Addr)(c:Value)(dd:Option Addr):HO:=.ext λh=>∃o vs,h.get? ea=some o/\o.cls=c/\o.dict=dd/\o.data=.fields vs
theorem alh{P:Program}{w:World}{H:Hp}{h:Heap}{ea:Addr}{c tb:Value}{dd:Option Addr}(x:xE h ea c dd tb):gE P w H h ea (pL ea c dd):=by
 obtain⟨oe,vs,a0,q,hc,oM,hd,_⟩:=x;exact iq ⟨oe,vs,q,hc,oM,hd⟩ ⟨oe,q⟩ λh1 h2 ⟨o,vs,e,r⟩ k=>⟨o,vs,k o e,r⟩
section
variable{X:Cx}{p_:List (Addr×Obj)}{σ:St}{H:Hp}{s:Shared}
theorem D7{M:Model}{A:Around}{E:Value->Shared->Prop}{i:Nat}{n:Str}{pos:Pos}{Q:Unit->Shared->Prop}(I:Inv X p_ σ H s)(hN:X.N.Nodup)(hi:X.N[i]?=some n)(hl:X.env.scope.names.lookup n=some .local)
  (k:∀s',Inv X p_ (σ.set i none) H s'->Q () s'):wpAny M A (do bindName X.env n .none;unbindBehindTheSuite X.env n pos) Q E s:=by
 refine ah (id I.loc) λm hn ux=>?_;have Nx:(X.env.scope.kind == .class||(X.env.scope.kind == .module&&X.env.locals != X.env.globals))=false:=by rw[I.ok.kind];rfl
 have OS:i < σ.length:=by rw[I.len];exact(eJ.mp hi).1
 refine wpAny_nameGoes_keeps hl hn Nx λh' v qR hs=>k _ ?_;have qM:∀{b:Addr} {o:Obj},X.s₀.heap.get? b=some o->b≠X.env.locals:=λe=>eO (eK (bJ e) I.ok.above);refine⟨I.ok,I.os,I.bare,⟨λb o e n hb hx=>(hs.2 b (qM e)).trans (I.base.keep b o e n hb hx),λb o e n hb hx=>let ⟨sl,q⟩:=I.base.slot b o e n hb hx;⟨sl,(hs.2 b (qM e)).trans q⟩,I.base.free,λb o e hx=>let ⟨o',q⟩:=I.base.there b o e hx;⟨o',(hs.2 b (qM e)).trans q⟩,I.base.og,I.base.nA,I.base.nv⟩,⟨_,qR,λj y v' e1 e2 e3=>?_⟩,λy c e=>let ⟨u,z⟩:=I.cell y c e;⟨u,z.sameBut hs (I.ug y c e)⟩,I.free,I.jy,λp hp=>let ⟨e,n,ne,r⟩:=I.pin p hp;⟨(hs.2 p.1 ne).trans e,n,ne,r⟩,λb u e=>?_,by simpa using I.len⟩
 ·by_cases hj:j=i
  ·subst hj;rw[mZ OS]at e2;cases e2
  ·rw[Ax (dU hj)]at e2;refine ah (ux j y v' e1 e2 e3) λu r q=>?_;refine ar u r ?_;rcases q with ⟨kd,e⟩ | ⟨kd,c,e,z⟩
   ·refine .inl ⟨kd,?_⟩;have ny:y≠n:=λz=>hj (JE hN e1 (z ▸ hi));show (if y=n then v else m y)=some u;rw[if_neg ny];exact e
   ·exact .inr ⟨kd,⟨c,e,z.sameBut hs (I.ug y c e)⟩⟩
 ·refine(I.aG b u e).pG (λd w hd q=>(hs.2 d λz=>?_).trans q) (λ_ q=>q) λ_ _ q=>q;have fr:=I.free;rw[<-z]at fr;rcases hd with y | y
  ·rw[y,e]at fr;cases fr
  ·rw[y]at fr;cases fr
end
def al6(K:PySem.W.Frag)(cv:Value)(tb:WX->TS)(ts:TS):TS:=λD σ H=>tb (λσ' c dd H'=>PySem.W.kitCls K c cv=some true/\ts D σ' H') D σ H
section
variable{X:Cx}{body:List Stmt}{b0:Stmt}{iZ:List Stmt}{x n:Str}{np BS pos:Pos}{tb:WX->TS}{ts:TS}{cv:Value}{i:Nat}
theorem aii(hs:X.stack=X.env::X.outer)(hf:X.env.frame=some X.env.locals)(hg:Gl X x)(hm:X.mg x=some cv)(ZX:PySem.W.kitCls X.K cv (.type "BaseException")=some true)
  (hb:∀(W:WX) (pn:List (Addr×Obj)) (E:Value->Shared->Prop),pC (X.body pn E) W->lM (model X.prog X.w) X.A X.env E->eE (X.body pn E) body (tb W))
  (OJ:∀(ea:Addr) (pn:List (Addr×Obj)),eE (X.iZ ea pn) (b0::iZ) ts) (jZ:(x == ("__debug__" : Str))=false:=by decide) :
  PS X (.Try body [.ExceptHandler (some (.Name x np)) none (b0::iZ) BS] [] [] pos) (al6 X.K cv tb ts):=by
 intro p_ s σ H D I h;have ok:=I.ok;refine wpAny_Try_except (iA (hb _ (X.pn++p_) _ ?_ aa3 [] s σ H D (I.body _) h) (λf s1 q=>?_) λ_ _ y=>y)
 ·intro pl σ1 H1 s1 ea c dd NY x1 hW;refine oA hW λhk hW=>?_;have x2:xu X p_ σ1 H1 s1 ea c dd NY:=⟨x1.inv.tL,x1.xR,x1.fe.body,λT z=>(x1.ft T z).body⟩;refine RP hs hf x2 λh' T I2 fl fe fT=>?_;have I3:=I2.iZ ea;refine C7 (C3 (nU (X:=X.iZ ea (X.pn++p_)) I3 hg hm ?_ jZ)) (by intro z;cases z);refine wV I3.cH fl.1 hk ZX (codeAny_handlers_suite ?_);refine yS (T:=T) (fl:=.none) ⟨fl.1,fl.2 T rfl⟩ λh3 k3 fl3=>?_;have I4:Inv X p_ σ1 H1 { s1 with heap:=h3 }:=Inv.turned (s:={ s1 with heap:=h' }) (h':=h3) (t':=s1.toks) (it:=T) I2 (λb o hb e=>k3 b o hb e) fT.1 fT.2.1 fT.2.2.2.1 fT.2.2.2.2.1 fT.2.2.2.2.2;refine iA (OJ ea (X.pn++p_) [] _ _ _ _ (I4.iZ ea) hW) (λf s5 q=>?_) λ_ _ z=>gA z;cases f with
  | next=>obtain⟨σ',H',J,q⟩:=q;exact⟨_,_,Inv.vc ok J,q⟩
  | brk=>obtain⟨σ',H',J,q⟩:=q;exact⟨_,_,Inv.vc ok J,q⟩
  | cont=>obtain⟨σ',H',J,q⟩:=q;exact⟨_,_,Inv.vc ok J,q⟩
  | ret u=>obtain⟨v,σ',H',J,r,q⟩:=q;exact⟨v,_,_,Inv.vc ok J,r,q⟩
 ·have q':=SP.tL q;cases f with
  | next=>exact AD q'
  | brk=>exact q'
  | cont=>exact q'
  | ret u=>exact q'
end
end L2
namespace L2
open PySem PySem.Spec PySem.W PyProof.Rows L3
end L2
namespace L2
open PySem PySem.Spec PyProof.Rows
open Sem (wp)
theorem aev:fillsNumberSlot (.type "tuple") "mul" = pure false:=
 (PySem.fillsNumberSlot_seq (id:="tuple.__mul__") (r:=some (.builtin "tuple.__rmul__")) HK.lookup dk F.slot_tuple_rmul.lookup dk)
theorem adI:seqRepeat? (.type "tuple")=pure (some (.builtin "tuple.__mul__")):=by
 unfold seqRepeat?;rw[(PySem.seqSlot_of (T:="tuple") (name:="__mul__") (id:="tuple.__mul__") HK.lookup dk),(PySem.seqSlot_of (T:="tuple") (name:="__rmul__") (id:="tuple.__rmul__") F.slot_tuple_rmul.lookup dk)];rfl
theorem acN(k:Int)(t:Tok)(l:Addr)(items:Array Value)(n:Nat)(dd:Option Addr)(sl:Array (Option Value)) :
  Meets (Builtin.«int.__rmul__» ⟨[.int k t,.ref l],[]⟩) (λ_ R s=>s.heap.get? l=some ⟨.type "tuple",dd,.seq items n,sl⟩/\R (.ok (.ret Value.notImplemented)) s):=
 .of_wp λprog w A R s h=>by obtain⟨hp,g,d,tk,os⟩:=s;obtain⟨hl,h⟩:=h;wp_walk;exact(⟨_,rfl,h⟩)
theorem afQ(l:Addr)(items:Array Value)(n:Nat)(dd:Option Addr)(sl:Array (Option Value))(t:Tok)(hv:items.isEmpty=false) :
  Meets (Builtin.«tuple.__mul__» ⟨[.ref l,.int 0 t],[]⟩) (λ_ R s=>s.heap.get? l=some ⟨.type "tuple",dd,.seq items n,sl⟩/\R (.ok (.ret (.ref s.heap.objs.size))) { s with heap:=s.heap.push { cls:=.type "tuple",data:=.seq #[] } }):=
 .of_wp λprog w A R s h=>by
  obtain⟨hp,g,d,tk,os⟩:=s;obtain⟨hl,h⟩:=h
  wp_walk
  exact⟨_,rfl,h⟩
theorem afP(l:Addr)(items:Array Value)(n:Nat)(dd:Option Addr)(sl:Array (Option Value))(k:Int)(t:Tok)(hv:items.isEmpty=false)(h1:1<k)(h2:k<2^62)(hz:items.size*k.toNat<=aP) :
  Meets (Builtin.«tuple.__mul__» ⟨[.ref l,.int k t],[]⟩) (λ_ R s=>s.heap.get? l=some ⟨.type "tuple",dd,.seq items n,sl⟩/\R (.ok (.ret (.ref s.heap.objs.size))) { s with heap:=s.heap.push { cls:=.type "tuple",data:=.seq ((dw k.toNat items).foldl (· ++ ·) #[]) } }):=
 .of_wp λprog w A R s h=>by
  obtain⟨hp,g,d,tk,os⟩:=s;obtain⟨hl,h⟩:=h;have ek:((k.toNat:Nat):Int)=k:=li;have ez:(items.size:Int)*k=((items.size*k.toNat:Nat):Int):=by rw[Int.natCast_mul,ek]
  have wq:items.size*k.toNat<=2^40:=cu hz qc
  have c1:¬((decide (k < -2^63)||decide (k ≥ 2^63))=true):=by
   rw[decide_eq_false li,decide_eq_false li];exact dh
  have c2:¬((items.isEmpty||k == 1)=true):=by
   rw[hv,beq_eq_false_iff_ne.mpr li];exact dh
  have c3:¬((decide (k<=0)||items.isEmpty)=true):=by
   rw[hv,decide_eq_false li];exact dh
  have c4:¬((items.size:Int)*k > (2^63-1)/8):=by
   rw[ez];lia
  have c5:¬(aai ((items.size:Int)*k)=true):=by
   rw[ez];unfold aai;simp only[decide_eq_true_eq];have:(aP:Nat)<=aP:=aF _;lia
  have c6:sizeOk (.seq ((dw k.toNat items).foldl (· ++ ·) #[])):=by
   show ((dw k.toNat items).foldl (· ++ ·) #[]).size<=aP;have:=foldl_rep items.toList k.toNat [];simp only[Array.toArray_toList,uQ]at this;rw[this,dq,len_rep,Ay,QQ];exact hz
  wp_walk
  rw[if_neg c1]
  wp_walk
  rw[if_neg c2]
  wp_walk
  rw[if_neg c3];dsimp only;rw[if_neg c4];rw[if_neg c5];refine aq (m:=C2 _) (uK ?_ c6);exact aN ⟨_,rfl,h⟩
section
variable{X:Cx}
def amj(K:W.Frag):R2:=λx y H Q=>∃a k xs,x=.ref a/\y=.int k/\aE K H a xs/\xs≠[]/\(k=0\/1<k)/\k<2^62/\xs.length*k.toNat<=aP/\
 ∀p,H p=none->Q (.ref p) (upd H p (.tup (dw k.toNat xs).flatten))
theorem ain:eG X (qe .Mult) (amj X.K):=by
 intro p_ s σ H x y v u Q I rx ry h;obtain⟨a,k,xs,rfl,rfl,ha,hx,hk,h2,hz,q⟩:=h;cases rx;obtain⟨t,rfl⟩:=ry;obtain⟨ak,r,ht,hl⟩:=I.tuple ha;have lr:xs.length=ak.length:=r.length
 have i8:ak.toArray.isEmpty=false:=by
  cases ak with
  | nil=>exact absurd (sW.mp lr) hx
  | cons a b=>rfl
 obtain⟨⟨cls,dd,data,sl⟩,ho,hc,n,hd⟩:=id ht;simp only at hc hd;subst hc hd
 refine aan (T:="tuple") (U:="int") qc ⟨_,ho,rfl⟩ (λs'=>Du s' k t) aev F.fills_int_mul HQ adI F.slot_int_index.lookup
  (wW HQ (Du s k t) F.entry_int_rmul (F.args_int_rmul_2 _ _) (acN k t a ak.toArray n dd sl) ⟨ho,rfl,⟨_,ho,rfl⟩,?_⟩)
 rcases hk with rfl | hk
 ·refine wW HK ⟨_,ho,rfl⟩ F.entry_tuple_mul (F.args_tuple_mul_2 _ _) (afQ a ak.toArray n dd sl t i8) ⟨ho,?_⟩;refine⟨.ref s.heap.objs.size,_,I.laid (t':=s.toks) (o:=.tup []) (λb ob q=>bo _ q) (aF _) ?_,rfl,q _ (I.aG.fresh (aF _))⟩;exact⟨bX _,[],.nil,DD _ _⟩
 ·refine wW HK ⟨_,ho,rfl⟩ F.entry_tuple_mul (F.args_tuple_mul_2 _ _) (afP a ak.toArray n dd sl k t i8 hk h2 (by rw[dq,<-lr];exact hz)) ⟨ho,?_⟩
  have e:IQ (λx1 x2=>x1++x2) #[] (dw k.toNat ak.toArray)=(dw k.toNat ak).flatten.toArray:=by
   have:=foldl_rep ak k.toNat [];rw[uQ]at this;exact this
  rw[e];refine⟨.ref s.heap.objs.size,_,I.laid (t':=s.toks) (o:=.tup (dw k.toNat xs).flatten) (λb ob q=>bo _ q) (aF _) ?_,rfl,q _ (I.aG.fresh (aF _))⟩;exact⟨by rw[len_rep,QQ];exact hz,_,r.rep k.toNat,DD _ _⟩
end
end L2
namespace HT
open PySem PySem.Spec PyProof.Rows
open Sem (wp)
section
variable{prog:Program}{w:World}{A:Around}{E:Value->Shared->Prop}{s:Shared}
theorem aaV{t sl:Addr}{items:Array Value}{vl vu:Value}{lo hi:Option Int}{Q:Value->Shared->Prop}(ht:IsTup s.heap t items)(hs:s.heap.IsSliceOf sl vl vu .none)(pl:IsPart vl lo)(pu:IsPart vu hi)
  (hw:bf items.size 0 lo=0/\bf items.size items.size hi=items.size) (h:Q (.ref t) s):wpAny (model prog w) A (getItem (.ref t) (.ref sl)) Q E s:=by
 obtain⟨os,yn,wA,Cw⟩:=id hs;have Pg:(s.TypeIs (.ref sl) "slice"):=⟨os,yn,wA⟩;unfold getItem
 try with_reducible refine ng ?_
 first | refine aq (aN ?_) | skip
 refine(aq (wpAny_sequenceKey ht.typeIs qc ?_));refine(aq (yD (name:=dZ "__getitem__") ht.typeIs As (wK As ht.typeIs entry_tuple_getitem ?_ (args_tuple_getitem _ _))));show wpAny _ _ ((aaj (.ref t)) >>= _) _ _ s;refine(aq (tupleItemsOf_ ht ?_));refine(aq (QH Pg ?_));rw[if_pos qc];refine(aq (Qf hs pl pu ?_))
 have aoE:((((bf items.size 0 lo:Nat):Int) == 0&&(1:Int) == 1&&(bf items.size items.size hi-bf items.size 0 lo) == items.size)=true):=by
  rw[hw.1,hw.2];simp
 show wpAny _ _ (if ((((bf items.size 0 lo:Nat):Int) == 0&&(1:Int) == 1&&(bf items.size items.size hi-bf items.size 0 lo) == items.size))=true then _ else _) _ _ s;rw[if_pos aoE];unfold Builtin.Tuple.tupleIsExact;refine aq (aq (QH ht.typeIs (aN ?_)));rw[if_pos qc];refine aq (IL ?_)
 first
  | exact aN ⟨_,rfl,aN h⟩
  | exact aq (aN (aN ⟨_,rfl,aN h⟩))
  | (wp_walk;exact⟨_,rfl,aN h⟩)
end
end HT
namespace L2
open PySem PySem.Spec PyProof.Rows
section
variable{X:Cx}
def VF(K:W.Frag):V->Option Int->Option Int->Hp->VK->Prop:=λx lo hi H Q=>∃a xs,x=.ref a/\aE K H a xs/\
 ((HT.bf xs.length 0 lo=0/\HT.bf xs.length xs.length hi=xs.length)->Q (.ref a) H)/\(¬(HT.bf xs.length 0 lo=0/\HT.bf xs.length xs.length hi=xs.length)->∀p,H p=none->Q (.ref p) (upd H p (.tup (jT xs lo hi))))
theorem DY:BZ X (VF X.K):=by
 intro p_ s σ H x v vl vu lo hi sl Q I rx hs pl pu h;obtain⟨a,xs,rfl,hx,q1,q2⟩:=h
 by_cases hw:(HT.bf xs.length 0 lo=0/\HT.bf xs.length xs.length hi=xs.length)
 ·cases rx;obtain⟨ak,r,ht,hz⟩:=I.tuple hx;have hlen:ak.toArray.size=xs.length:=by rw[dq];exact r.length.symm
  refine⟨"tuple",_,As.lookup,ht.typeIs,?_⟩;exact HT.aaV ht hs pl pu (by rw[hlen];exact hw) ⟨.ref a,H,I,rfl,q1 hw⟩
 ·exact Ed p_ s σ H _ v vl vu lo hi sl Q I rx hs pl pu ⟨a,xs,rfl,hx,hw,q2 hw⟩
end
end L2
namespace L2
open PySem PySem.Spec PyProof.Rows PySem.SeqAt
mutual
def noDict:PyData->Bool
 | .dict _=>false
 | .list xs=>uX xs
 | .tuple xs=>uX xs
 | _=>true
def uX:List PyData->Bool
 | []=>true
 | x::xs=>noDict x&&uX xs
end
mutual
theorem Ra:∀d:PyData,noDict d=true->noMix d d=true/\same d d=true
 | .none,_=>⟨rfl,rfl⟩
 | .bool b,_=>⟨rfl,by simp[same]⟩
 | .int i,_=>⟨rfl,by simp[same]⟩
 | .str x,_=>⟨rfl,by simp[same]⟩
 | .list xs,h=>by
  rw[noMix,same];exact HX xs (by rw[noDict]at h;exact h)
 | .tuple xs,h=>by
  rw[noMix,same];exact HX xs (by rw[noDict]at h;exact h)
 | .dict _,h=>by rw[noDict]at h;cases h
theorem HX:∀xs:List PyData,uX xs=true->DQ xs xs=true/\sameAll xs xs=true
 | [],_=>⟨by rw[DQ],by rw[sameAll]⟩
 | x::xs,h=>by
  rw[uX,fJ]at h;refine oA (Ra x h.1) λa b=>?_;refine oA (HX xs h.2) λc d=>?_;rw[DQ,sameAll,a,b,c,d];exact⟨rfl,rfl⟩
end
mutual
theorem Qw:∀d:PyData,d.canLay0=true->noDict d=true
 | .none,_=>rfl
 | .bool b,_=>rfl
 | .int i,_=>rfl
 | .str x,_=>rfl
 | .list xs,h=>by rw[noDict];exact HG xs (by rw[lp]at h;exact h)
 | .tuple xs,h=>by rw[noDict];exact HG xs (by rw[lp]at h;exact h)
 | .dict _,h=>by rw[lp]at h;cases h
theorem HG:∀xs:List PyData,kj xs=true->uX xs=true
 | [],_=>by rw[uX]
 | x::xs,h=>by
  rw[kj,fJ]at h;rw[uX,Qw x h.1,HG xs h.2];rfl
end
theorem TQ{d:PyData}(h:shaped d=true):noMix d d=true/\same d d=true:=Ra d (Qw d (canLay_of_shaped h))
theorem y7{K:W.Frag}{H:Hp}{x y:V}{Q:VK}{d:PyData}(hx:eY K H x d)(hy:eY K H y d)(hs:shaped d=true)(q:Q (.bl false) H):EZ K true x y H Q:=by
 refine oA (TQ hs) λa b=>?_;refine⟨d,d,hx,hy,hs,hs,a,?_⟩;rw[if_pos rfl,b];exact q
theorem Th{K:W.Frag}{H:Hp}{x y:V}{Q:VK}{d:PyData}(hx:eY K H x d)(hy:eY K H y d)(hs:shaped d=true)(q:Q (.bl true) H):EZ K false x y H Q:=by
 refine oA (TQ hs) λa b=>?_;refine⟨d,d,hx,hy,hs,hs,a,?_⟩;rw[if_neg dh,b];exact q
theorem oX{α:Type}{f:α->PyData}:∀{l:List α},(∀a∈l,(f a).canLay0=true)->kj (l.map f)=true
 | [],_=>by simp[kj]
 | a::l,h=>by
  rw[iF,kj,h a dE,oX λb hb=>h b (dn _ hb)];rfl
theorem lL{α:Type}{f:α->PyData}{k:Nat}:∀{l:List α},(∀a∈l,(f a).depth<=k)->lI (l.map f)<=k
 | [],_=>by simp[lI]
 | a::l,h=>by
  have h1:=h a dE;have h2:=lL λb hb=>h b (dn _ hb);simp only[iF,lI];lia
theorem Q3{α:Type}{f:α->PyData}{l:List α}(h1:∀a∈l,(f a).canLay0=true)(h2:∀a∈l,(f a).depth<=60):shaped (.list (l.map f))=true:=by
 have d:=lL h2;unfold shaped;rw[fJ];refine⟨by simp only[lp];exact oX h1,decide_eq_true ?_⟩;simp only[iT];exact wb
theorem tE{α:Type}{K:W.Frag}{H:Hp}{F:V->α->Prop}{f:α->PyData}(h:∀v a,F v a->eY K H v (f a)):∀{vs:List V} {l:List α},Paired F vs l->lD K H vs (l.map f)
 | _,_,.nil=>.nil
 | _,_,.cons g t=>.cons (h _ _ g) (tE h t)
def xS(h:Heap)(dx:PyData)(u:Value):Bool:=@decide (∃d as,Reads h u d as/\tD d dx=true) (PY _)
theorem Vi{h:Heap}{dx d:PyData}{u:Value}{as:List Addr}(r:Reads h u d as):xS h dx u=tD d dx:=by
 unfold xS;cases e:tD d dx with
 | true=>exact @decide_eq_true _ (PY _) ⟨d,as,r,e⟩
 | false=>
  refine @decide_eq_false _ (PY _) ?_;rintro⟨d',as',r',e'⟩;refine oA (r.unique d' as' r') λq _=>?_;rw[q,e']at e;cases e
theorem UC{h:Heap}{dx:PyData}:∀{us:List Value} {ds:List PyData} {as:List Addr},ReadsAll h us ds as->us.any (xS h dx)=ds.any λd=>tD d dx
 | _,_,_,.nil=>rfl
 | _,_,_,.cons r t=>by rw[yP,yP,Vi r,UC t]
theorem Ue{A:Around}{s:Shared}{v:Value}{dx:PyData}{bs:List Addr}(rx:Reads s.heap v dx bs)(sx:shaped dx=true)(hu:A.in1.units+64<cLine):∀{us:List Value} {ds:List PyData} {as:List Addr},ReadsAll s.heap us ds as->(∀d∈ds,shaped d=true)->∀u∈us,EqAt A.in1 s u v (xS s.heap dx u)
 | _,_,_,.nil,_=>λu hu=>by cases hu
 | _,_,_,.cons r t,h=>λu hm=>by
  rcases bq.mp hm with rfl | hm
  ·rw[Vi r];exact W.keq_at r rx (h _ (by simp)) sx hu
  ·exact Ue rx sx hu t (λd hd=>h d (dn _ hd)) u hm
def an1(K:W.Frag)(neg:Bool):R2:=λx y H Q=>∃p xs ds dx,y=.ref p/\av K H p xs/\lD K H xs ds/\eY K H x dx/\shaped dx=true/\(∀d∈ds,shaped d=true)/\Q (.bl (if neg=true then !(ds.any λd=>tD d dx) else ds.any λd=>tD d dx)) H
section
variable{X:Cx}
theorem aeK(hu:X.A.units+65<cLine):eG X (kr .NotIn) (an1 X.K true):=by
 intro p_ s σ H x y v u Q I rx ry h;obtain⟨p,xs,ds,dx,aa,hq,hd,hx,sx,sd,q⟩:=h;subst aa;cases ry;refine aL (I.list hq) λak r pl hz=>?_;refine oE (hd.reads I r) λas q1=>?_;refine oE (hx.reads I rx) λbs q2=>?_;refine notIn_listAt (xS s.heap dx) pl.isList (λw hw=>Ue q2 sx (by show X.A.units+1+64<cLine;exact w0) q1 sd w (by simpa using hw)) ⟨.bl _,H,I,rfl,?_⟩;rw[show ak.toArray.any (xS s.heap dx)=ak.any (xS s.heap dx) by simp,UC q1];exact q
end
theorem JD{X:Cx}(hu:X.A.units+64<cLine):eG X (kr .NotEq) (λx y H Q=>∃a b xs,x=.ref a/\y=.ref b/\H a=some (.lst xs)/\H b=some (.lst [])/\Q (.bl (!decide (xs=[]))) H):=by
 intro p_ s σ H x y v u Q I rx ry h;obtain⟨a,b,xs,rfl,rfl,ha,hb,q⟩:=h
 by_cases e:xs=[]
 ·subst e;refine xp hu p_ s σ H _ _ v u Q I rx ry ⟨.list [],.list [],.lst (av.of ha) .nil,.lst (av.of hb) .nil,qc,qc,by simp[noMix,DQ],?_⟩;have e1:same (.list []) (.list [])=true:=by simp[same,sameAll]
  rw[if_pos rfl,e1];exact q
 ·cases rx;cases ry;obtain⟨z,ak,n,r,hl,e1⟩:=I.qz ha;obtain⟨z2,nB,n2,r2,mV,e2⟩:=I.qz hb;rw[decide_eq_false e]at q;have hz:nB=[]:=sW.mp (by rw[<-mV];rfl);subst hz
  have hs:(ak.toArray.size != ([]:List Value).toArray.size)=true:=by
   rw[bne_iff_ne,dq,<-hl];intro h0;exact e (sW.mp h0)
  show wpAny _ _ (richCompare .NotEq (.ref a) (.ref b)) _ _ s;exact aax ⟨_,e1,rfl⟩ ⟨_,e2,rfl⟩ F.slot_list_ne F.entry_list_ne (F.args_list_ne_2 _ _) (list_ne_lengthsAt a b _ _ _ _ _ _ _ _ hs) ⟨e1,e2,(by intro z;cases z),⟨.bl true,H,I,rfl,q⟩⟩ om
theorem agg{X:Cx}(hu:X.A.units+64<cLine):eG X (kr .Eq) (λx y H Q=>∃a b xs,x=.ref a/\y=.ref b/\H a=some (.lst xs)/\H b=some (.lst [])/\Q (.bl (decide (xs=[]))) H):=by
 intro p_ s σ H x y v u Q I rx ry h;obtain⟨a,b,xs,rfl,rfl,ha,hb,q⟩:=h
 by_cases e:xs=[]
 ·subst e;refine Ln hu p_ s σ H _ _ v u Q I rx ry ⟨.list [],.list [],.lst (av.of ha) .nil,.lst (av.of hb) .nil,qc,qc,by simp[noMix,DQ],?_⟩;have e1:same (.list []) (.list [])=true:=by simp[same,sameAll]
  rw[if_neg dh,e1];exact q
 ·cases rx;cases ry;obtain⟨z,ak,n,r,hl,e1⟩:=I.qz ha;obtain⟨z2,nB,n2,r2,mV,e2⟩:=I.qz hb;rw[decide_eq_false e]at q;have hz:nB=[]:=sW.mp (by rw[<-mV];rfl);subst hz
  have hs:(ak.toArray.size != ([]:List Value).toArray.size)=true:=by
   rw[bne_iff_ne,dq,<-hl];intro h0;exact e (sW.mp h0)
  show wpAny _ _ (richCompare .Eq (.ref a) (.ref b)) _ _ s;exact aax ⟨_,e1,rfl⟩ ⟨_,e2,rfl⟩ F.slot_list_eq F.entry_list_eq (F.args_list_eq_2 _ _) (list_eq_lengthsAt a b _ _ _ _ _ _ _ _ hs) ⟨e1,e2,(by intro z;cases z),⟨.bl false,H,I,rfl,q⟩⟩ om
end L2
namespace L2
open PySem PySem.Spec PySem.W PyProof.Rows L3
section
variable{X:Cx}{pz:List (Addr×Obj)}{σ:St}{H:Hp}{s:Shared}{ns:List Int}{kf:Int->Int}{l it sx f:Addr}{R:Result->Shared->Prop}
def alD(kf:Int->Int)(ns:List Int)(sx:Addr)(j:Nat)(h:Heap):Prop:=(j=0/\∃c,h.get? sx=some (seqObj "list" #[] c))\/
 (0<j/\∃nb vb tb c,h.get? sx=some (seqObj "list" #[vb,.int (kf nb) tb] c)/\RelV (.int nb) vb/\nb∈ns/\∀i n,i<j->ns[i]?=some n->kf nb<=kf n)
theorem alB{vs:List Value}(rv:Vals (ns.map V.int) vs){j:Nat}{v:Value}(e:vs[j]?=some v):∃n t,ns[j]?=some n/\v=.int n t:=by
 have hl:=rv.length;rw[aX]at hl;have hj:j<vs.length:=(eJ.mp e).1;obtain⟨u,e',t,ru⟩:=rv.get (i:=j) (x:=.int ns[j]) (by simp[show j<ns.length by exact wg]);rw[e]at e';cases e';exact⟨ns[j],t,bb (by exact wg),ru⟩
theorem agF(hh:X.A.handled=none)(hl:av X.K H l (ns.map V.int))(h0:0<ns.length)(ZF:l≠it)
  (turn:∀(n:Int) (u:Value) (pp:List (Addr×Obj)) (s:Shared),n∈ns->RelV (.int n) u->(∀p∈pz,p∈pp)->Inv X pp σ H s->wpAny (model X.prog X.w) X.A.in1 (call (.ref f) [u]) (EP X pp σ λv H'=>v=.int (kf n)/\H'=H) (λ_ _=>False) s)
  (hR:∀nb vb s',Inv X pz σ H s'->RelV (.int nb) vb->nb∈ns->(∀n∈ns,kf nb<=kf n)->R (.ok (.ret vb)) s') :
  ∀(r j:Nat) (s:Shared),ns.length-j=r->j<=ns.length->Inv X pz σ H s->cV X pz H sx->cV X pz H it->sx≠it->s.heap.IsListIter it l j->alD kf ns sx j s.heap->
   codeAny (model X.prog X.w) X.A (.builtin "min.loop" ⟨[.ref it,.ref f,.ref sx],[]⟩) R s:=by
 have BF:(toString "min" ++ toString ".loop" : String) = "min.loop":=qc;intro r
 induction r with
 | zero=>
  intro j s hr hj I fs fi yf hit hb;have ej:j=ns.length:=li;rcases hb with ⟨z,_⟩ | ⟨_,nb,vb,tb,c,eS,rb,mb,best⟩
  ·lia
  ·obtain⟨vs,rv,pl,hz⟩:=I.list hl;have lv:=rv.length;rw[aX]at lv;have W:=Rq (prog:=X.prog) (w:=X.w) (A:=X.A.in1) hh it l ZF vs.toArray;refine(codeAny_builtin PySem.F.entry_min_loop (?_:wpAny _ _ _ _ _ s));rw[(aaG PySem.F.plain_min_loop _)];show wpAny _ X.A.in1 (Jh (.ref sx) >>= _) _ _ _;refine aq (td eS rfl (?_:wpAny _ X.A.in1 (tryCatch (pyNext (.ref it)) _ >>= _) _ _ _));refine aq (HS (W.done _ _ _ ⟨by rw[dq,<-lv,<-ej];exact hit,pl.isList⟩ λh' B4 Ct=>?_));have k1:∀b o,b≠it->s.heap.get? b=some o->h'.get? b=some o:=λb o n e=>Ct b o (by simpa using n) e;have I1:Inv X pz σ H { s with heap:=h',toks:=B4 }:=I.turned k1 fi.1 fi.2.1 fi.2.2.2.1 fi.2.2.2.2.1 fi.2.2.2.2.2;have e1:=k1 sx _ yf eS;show wpAny _ X.A.in1 (updateSeq sx (λ_=>#[]) >>= _) _ _ _;refine aq (Qm e1 rfl (aq (yT (aN ?_))));have sb:=Hw h' sx (rG λ_=>(#[]:Array Value));refine hR nb vb _ (I1.turned (h':=_) (t':=B4) (it:=sx) (λb o n e=>(sb.2 b n).trans e) fs.1 fs.2.1 fs.2.2.2.1 fs.2.2.2.2.1 fs.2.2.2.2.2) rb mb λn hn=>?_;obtain⟨i,hi,e⟩:=uH hn;exact best i n (by exact wg) (by rw[<-e];exact bb hi)
 | succ r ih=>
  intro j s hr hj I fs fi yf hit hb;have lt:j<ns.length:=li;obtain⟨vs,rv,pl,hz⟩:=I.list hl;have lv:=rv.length;rw[aX]at lv;have W:=Rq (prog:=X.prog) (w:=X.w) (A:=X.A.in1) hh it l ZF vs.toArray
  have hS:∃xs c,s.heap.get? sx=some (seqObj "list" xs c)/\((j=0/\xs=#[])\/(0<j/\∃nb vb tb,xs=#[vb,.int (kf nb) tb]/\RelV (.int nb) vb/\nb∈ns/\∀i n,i<j->ns[i]?=some n->kf nb<=kf n)):=by
   rcases hb with ⟨z,c,e⟩ | ⟨z,nb,vb,tb,c,e,q⟩
   ·exact⟨_,c,e,.inl ⟨z,rfl⟩⟩
   ·exact⟨_,c,e,.inr ⟨z,nb,vb,tb,rfl,q⟩⟩
  obtain⟨xs,c,eS,hx⟩:=hS;refine(codeAny_builtin PySem.F.entry_min_loop (?_:wpAny _ _ _ _ _ s));rw[(aaG PySem.F.plain_min_loop _)];show wpAny _ X.A.in1 (Jh (.ref sx) >>= _) _ _ _;refine aq (td eS rfl (?_:wpAny _ X.A.in1 (tryCatch (pyNext (.ref it)) _ >>= _) _ _ _));refine aq (HS (W.item j _ _ _ (by rw[dq];exact wf) ⟨hit,pl.isList⟩ λv h' B4 hP aoO Ct=>?_));have hv:vs[j]?=some v:=by simpa using hP
  obtain⟨n,t,en,rfl⟩:=alB rv hv;have mn:n∈ns:=cQ en;have k1:∀b o,b≠it->s.heap.get? b=some o->h'.get? b=some o:=λb o z e=>Ct b o (by simpa using z) e;have I1:Inv X pz σ H { s with heap:=h',toks:=B4 }:=I.turned k1 fi.1 fi.2.1 fi.2.2.2.1 fi.2.2.2.2.1 fi.2.2.2.2.2;have e1:=k1 sx _ yf eS;obtain⟨oI,hoI,yp,OO⟩:=id aoO.1
  have P1:Inv X ((pz++[(sx,seqObj "list" xs c)])++[(it,oI)]) σ H { s with heap:=h',toks:=B4 }:=by
   have a:=I1.E5 fs e1 (λv z=>by cases z);refine a.E5 ⟨fi.1,fi.2.1,fi.2.2.1,fi.2.2.2.1,fi.2.2.2.2.1,λp hp=>?_⟩ hoI (λv z=>by rw[OO]at z;cases z);rcases jo.mp hp with z | z
   ·exact fi.2.2.2.2.2 p (oS _ z)
   ·rcases jo.mp z with z | z
    ·exact fi.2.2.2.2.2 p (gg _ z)
    ·have z':p=(sx,seqObj "list" xs c):=by simpa using z
     rw[z'];exact yf
  show wpAny _ X.A.in1 (tryCatch (holding [nh n t] (call (.ref f) [nh n t])) _ >>= _) _ _ _;refine aq (HS (ng (iA (turn n _ _ _ mn ⟨t,rfl⟩ (λp hp=>oS _ (oS _ hp)) P1) (λw s2 hw=>?_) λ_ _ z=>z.elim)));obtain⟨v2,H2,J,r2,rfl,rfl⟩:=hw;obtain⟨t2,rfl⟩:=r2;have I2:Inv X pz σ H2 s2:=J.vh λp hp=>J.pin p (gg _ (oS _ (oS _ hp)));have e2:=(J.pin (sx,seqObj "list" xs c) (gg _ (oS _ (gg _ (by simp))))).1;have i2:=(J.pin (it,oI) (gg _ (gg _ (by simp)))).1
  have wr:∀(tk:Nat),(∀i m,i<j->ns[i]?=some m->kf n<=kf m)->codeAny (model X.prog X.w) X.A (.builtin "min.loop" ⟨[.ref it,.ref f,.ref sx],[]⟩) R { s2 with heap:=s2.heap.update sx (rG λ_=>#[.int n t,.int (kf n) t2]),toks:=tk }:=λtk anw=>by
   have sb:=Hw s2.heap sx (rG λ_=>#[nh n t,nh (kf n) t2]);have I3:Inv X pz σ H2 { s2 with heap:=s2.heap.update sx (rG λ_=>#[.int n t,.int (kf n) t2]),toks:=tk }:=I2.turned (it:=sx) (λb o z e=>(sb.2 b z).trans e) fs.1 fs.2.1 fs.2.2.2.1 fs.2.2.2.2.1 fs.2.2.2.2.2;refine ih (j+1) _ om (by exact xf) I3 fs fi yf ⟨oI,(sb.2 it (dU yf)).trans i2,yp,OO⟩ (.inr ⟨QN _,n,_,t2,_,Qo e2 λ_=>#[.int n t,.int (kf n) t2],⟨t,rfl⟩,mn,λi m hi em=>?_⟩)
   by_cases z:i=j
   ·subst z;rw[en]at em;cases em;exact Int.le_refl _
   ·exact anw i m li em
  rcases hx with ⟨z,rfl⟩ | ⟨z,nb,vb,tb,rfl,rb,mb,best⟩
  ·show wpAny _ X.A.in1 (updateSeq sx (λ_=>#[.int n t,.int (kf n) t2]) >>= _) _ _ _;refine aq (Qm e2 rfl ?_);rw[BF];exact aN ⟨Ia PySem.F.plain_min_loop _,wr s2.toks λi m hi _=>absurd hi li⟩
  ·show wpAny _ X.A.in1 (tryCatch (holding [.int n t,.int (kf n) t2] (richCompare .Lt (.int (kf n) t2) (.int (kf nb) tb) >>= _)) _ >>= _) _ _ _;refine aq (HS (ng (aq (lt_int (?_:wpAny _ _ _ _ _ _)))));refine aq (ng (sX (aq (yT (aN ?_)))))
   by_cases dB:kf n<kf nb
   ·simp only[dB,decide_true,if_true];refine aq (Qm e2 rfl (aq (yT ?_)));rw[BF];refine aN ⟨Ia PySem.F.plain_min_loop _,wr s2.toks λi m hi em=>?_⟩;have:=best i m hi em;lia
   ·simp only[dB,decide_false,wI,if_false];refine aq (yT ?_);rw[BF];refine aN ⟨Ia PySem.F.plain_min_loop _,ih (j+1) _ li (by exact xf) I2 fs fi yf ⟨oI,i2,yp,OO⟩ (.inr ⟨QN _,nb,vb,tb,c,e2,rb,mb,λi m hi em=>?_⟩)⟩
    by_cases z2:i=j
    ·subst z2;rw[en]at em;cases em;lia
    ·exact best i m li em
end
section
variable{X:Cx}{p_:List (Addr×Obj)}{σ:St}{H:Hp}{s:Shared}{ns:List Int}{kf:Int->Int}{l f:Addr}
theorem agG{Q:VK}{E:Value->Shared->Prop}{pz:List (Addr×Obj)}(I:Inv X pz σ H s)(hh:X.A.handled=none)(hl:av X.K H l (ns.map V.int))(h0:0<ns.length)
  (turn:∀(n:Int) (u:Value) (pp:List (Addr×Obj)) (s:Shared),n∈ns->RelV (.int n) u->(∀p∈pz,p∈pp)->Inv X pp σ H s->wpAny (model X.prog X.w) X.A.in1 (call (.ref f) [u]) (EP X pp σ λv H'=>v=.int (kf n)/\H'=H) (λ_ _=>False) s)
  (q:∀m∈ns,(∀n∈ns,kf m<=kf n)->Q (.int m) H):wpAny (model X.prog X.w) X.A (call (.builtin "min") [.ref l] [(dZ "key",.ref f)]) (EP X pz σ Q) E s:=by
 have BF:(toString "min" ++ toString ".loop" : String) = "min.loop":=qc;obtain⟨vs,rv,pl,hz⟩:=I.list hl
 have hll:l<s.heap.objs.size:=by
  obtain⟨o,e,_⟩:=pl.isList;exact bJ e
 refine kmk_tree PySem.F.kind_min PySem.F.plain_min PySem.F.entry_min (kmk_min_key _ _) (?_:wpAny _ X.A.in1 (aag "min" ["key","default"] 0 ⟨[],[(dZ "key",.ref f)]⟩ >>= _) _ _ s);refine aq (wpAny_of_eq (rfl:aag "min" ["key","default"] 0 ⟨[],[(dZ "key",.ref f)]⟩=pure [some (.ref f),none]) ?_);refine aq (aN (aq (Hz pl.isList (aq (Qy ?_ (bX _))))));rw[BF];have z1:(s.heap.push { cls:=.type "list_iterator",data:=.fields #[.ref l,.int 0 0] }).objs.size=s.heap.objs.size+1:=m8 _ _;have hI:H s.heap.objs.size=none:=I.aG.fresh (aF _);have hS:H (s.heap.push { cls:=.type "list_iterator",data:=.fields #[.ref l,.int 0 0] }).objs.size=none:=I.aG.fresh (by rw[z1];exact jq _);refine aN ⟨Ia PySem.F.plain_min_loop _,?_⟩;have I1:Inv X pz σ H { s with heap:=(s.heap.push { cls:=.type "list_iterator",data:=.fields #[.ref l,.int 0 0] }).push (seqObj "list" #[] 0) }:=I.kept (t':=s.toks) λb o e=>bo _ (bo _ e)
 refine agF (kf:=kf) (pz:=pz) (σ:=σ) hh hl h0 (eO hll) turn (λnb vb s' J rb mb best=>?_) (ns.length-0) 0 _ rfl (bX _) I1 (I.fo (by rw[z1];exact jq _) hS) (I.fo (aF _) hI) (by rw[z1];exact Df _)
  ⟨_,bo _ (gy _ rfl),rfl,rfl⟩ (.inl ⟨rfl,0,gy _ rfl⟩)
 exact⟨.int nb,H,J,rb,q nb mb best⟩
def WE(B:V->Hp->Prop):List V->Hp->Prop:=λvs H=>match vs with | [x]=>B x H | _=>False
theorem aip{B:V->Hp->Prop}:∀{vs:List V} {H:Hp},WE B vs H->∃x,vs=[x]/\B x H
 | [x],_,h=>⟨x,rfl,h⟩
 | [],_,h=>h.elim
 | _::_::_,_,h=>h.elim
def ahS(K:W.Frag)(P:Addr)(xJ:Pos)(qual:Str)(tl te:TE)(idx:List Nat)(n k:Nat):TE:=λσ H Q=>tl σ H λx H1=>∃(a:Addr) (ns:List Int) (kf:Int->Int),x=.ref a/\av K H1 a (ns.map V.int)/\0<ns.length/\cJ P xJ qual H1/\
 ∀H2,vA P H1 H2->cJ P xJ qual H2->av K H2 a (ns.map V.int)/\(∀m∈ns,te ((lE idx n σ).set k (some (.int m))) H2 λv H'=>v=.int (kf m)/\H'=H2)/\∀m∈ns,(∀n∈ns,kf m<=kf n)->Q (.int m) H2
theorem aeI{sc:Scope}{N:List Str}{idx:List Nat}{k:Nat}{px:Str}{params:Arguments}{le body:Expr}{p pos xJ W5:Pos}{c P:Addr}{tl te:TE}(hc:X.calm=true)(Zu:X.A.depth+5<Dk)(hg:Gl X "min")(hm:X.mg "min" = none)(hl:PE X le tl)(S:dN X sc N idx)
  (EU:X.env.code=.ref c) (C:CodeHd X.base c P) (B:ub X.mg X.base) (hk:N[k]?=some px) (ux:sc.names.lookup px=some .local) (hi:idx.length<=k) (hb:∀A qual f cd s H,PE (FA X A sc N qual f cd s H) body te)
  (BG:∀(qual:Str) (cl:List (Str×Addr)) (pm cd oO u:Value),va (kla_fn "<lambda>" qual params body sc cl pm cd oO) ⟨[u],[]⟩=pure [(px,u)]) (Nw:defaultsOf params X.env=([],[]):=by rfl) (Pe:sc.isCoroutine=false:=by rfl) (Nv:sc.isGenerator=false:=by rfl)
  (he:backTo pos (cg [le] X.env)=(false,eval le X.env)::backTo pos (cg [] X.env):=by rfl) (dO:(backTo pos (cg [le] X.env)).any (·.1)=false:=by rfl) (hs:cg [le] X.env=(false,eval le X.env)::cg [] X.env:=by rfl) :
  PE X (.Call (.Name "min" p) [le] [⟨some "key",.Lambda params body sc xJ,W5⟩] pos) (ahS X.K P xJ (X.env.qual ++ "<lambda>") tl te idx N.length k):=by
 intro p_ s σ H Q I h;refine uI (vp I hg hm (show wO "min" = some (.builtin "min") from boot_min) ?_ qc qc)
 refine callWith_kw (aO (ae (X:=X) hl ag hs pos p_ s σ H (WE λx H1=>∃(a:Addr) (ns:List Int) (kf:Int->Int),x=.ref a/\av X.K H1 a (ns.map V.int)/\0<ns.length/\cJ P xJ (X.env.qual ++ "<lambda>") H1/\
  ∀H2,vA P H1 H2->cJ P xJ (X.env.qual ++ "<lambda>") H2->av X.K H2 a (ns.map V.int)/\(∀m∈ns,te ((lE idx N.length σ).set k (some (.int m))) H2 λv H'=>v=.int (kf m)/\H'=H2)/\∀m∈ns,(∀n∈ns,kf m<=kf n)->Q (.int m) H2) I h) λus s1 ⟨vs,H1,I1,rv,q1⟩=>?_) he dO rfl rfl
 obtain⟨x,rfl,a,ns,kf,rfl,hL,h0,sq,hq⟩:=aip q1;obtain⟨u,rfl,ru⟩:=vals1 rv;cases ru;refine kws_cons (agK I1 S EU C B Nw sq λf c' H2 pm oO s2 I2 sm oj qV=>kws_nil ?_);obtain⟨kZ,hte,hQ⟩:=hq H2 sm oj;have hh:X.A.handled=none:=I.ok.hd hc;refine aO (agG (kf:=kf) (f:=f) I2 hh kZ h0 (λn u pp s3 hn ru hp I3=>?_) λm hm hb=>hQ m hm hb) λw s4 ⟨v,H4,I4,r4,q4⟩=>⟨v,H4,I4.DE,r4,q4⟩;refine agL (A:=X.A.in1) (v:=.int n) I3 S I3.ok.frames hh (by show X.A.depth<_;lia) hk ux hi ru (I3.pin _ (gg _ (hp _ (gg _ dE)))).1 (I3.aG c' _ qV).1 (BG _ _ _ _ _ _) Pe Nv (hb _ _ _ _ _ _) (hte n hn)
end
end L2
namespace L2
open PySem PySem.Spec PyProof.Rows L3
section
variable{X:Cx}{k:Nat}{f C:Addr}{fd:aV}{ps:List Str}{sp:Sp}{dvs:List V}{ds:List Value}{W:WX}{x m:Str}{p pos apos:Pos}{e o:Expr}{es:List Expr}{ta:TE}{t:TA}{P:Program}{w:World}
end
structure vI(K:PySem.W.Frag)(x qual:Str)(st:Stmt)(f:Addr)(fd:aV)(c:Addr):Prop where
 ex:∃(oc:Value) (od:Option Addr) (kV doc pm:Value) (an:Option Addr) (ct:Value) (iN:Array (Option Value)),fd=PySem.W.fnOf x qual (ma st) (hX st) (aQ st) .none kV doc pm an (.ref c) ct/\K.lookup f=some ⟨oc,od,.func fd,iN⟩/\PySem.W.codeIn K (.ref c) qual=true
 kp:PySem.W.keepIn K (.ref f)=true
theorem aiZ{K:PySem.W.Frag}{x qual:Str}{st:Stmt}{f c:Addr}{oc:Value}{od an:Option Addr}{iN:Array (Option Value)}{kV doc pm ct:Value}(l:K.lookup f=some ⟨oc,od,.func (PySem.W.fnOf x qual (ma st) (hX st) (aQ st) .none kV doc pm an (.ref c) ct),iN⟩)
  (c1:PySem.W.codeIn K (.ref c) qual=true) (k:PySem.W.keepIn K (.ref f)=true):vI K x qual st f (PySem.W.fnOf x qual (ma st) (hX st) (aQ st) .none kV doc pm an (.ref c) ct) c:=⟨⟨oc,od,kV,doc,pm,an,ct,iN,rfl,l,c1⟩,k⟩
section
variable{P:Program}{w:World}{K:PySem.W.Frag}{mg:Str->Option Value}{base:Heap}
theorem vI.ok{x qual:Str}{st:Stmt}{f c:Addr}{fd:aV}{N ps:List Str}{k:Nat}{sp:Sp}(F:vI K x qual st f fd c)(S:bg N ps (aQ st))(len:∀vs H Q E,sp vs H Q E->vs.length=ps.length)
  (qw:∀(A:Around) (outer:List Env) (s:Shared) (H:Hp) (vs:List V) (Q:VK) (E:XK),dX k (A.deeper (envOfC qual (aQ st) s.heap.objs.size f (.ref c)))->sp vs H Q E->
   ∃t,eE (jj az P w K mg base N qual (aQ st) f (.ref c) A outer s H E).qE (hX st) t/\t { nx:=λ_ H'=>Q .aJ H',rt:=Q } (start N vs) H):aw P w K mg base az (k+1) f fd ps sp:=by
 obtain⟨oc,od,kV,doc,pm,an,ct,iN,aa,lk,gU⟩:=F.ex;subst aa;refine tT lk gU S len λA outer s H vs Q E hr nM=>?_;refine ah (qw A outer s H vs Q E hr nM) λt h q=>?_;exact ar t h.qE q
theorem vI.fun{x qual:Str}{st:Stmt}{f c:Addr}{fd:aV}(F:vI K x qual st f fd c):aW K x qual st f fd:=by
 obtain⟨oc,od,kV,doc,pm,an,ct,iN,e,lk,gU⟩:=F.ex;exact⟨⟨oc,od,kV,doc,pm,an,_,ct,iN,e,lk,gU⟩,F.kp⟩
end
end L2
namespace L2
open PySem PySem.Spec PySem.W PyProof.Rows
theorem acF{ps:List (Int×V)}{zs:List V}(h:LL (ps.map (·.2)) (λi=>(ps.map (·.1)).getD i 0) zs):∃qs:List (Int×V),qs.Perm ps/\qs.Pairwise (λa b=>a.1<b.1)/\zs=qs.map (·.2):=by
 obtain⟨p,g,ri,rfl⟩:=h;rw[aX]at g ri;have hlen:=RO g;have gp:=aal.mp g
 have er:(List.range ps.length).map (λi=>ps.getD i (0,.aJ))=ps:=by
  apply abi
  ·simp
  ·intro i h1 h2;simp[h2]
 refine⟨p.toList.map λi=>ps.getD i (0,.aJ),?_,?_,?_⟩
 ·have:=gp.map λi=>ps.getD i (0,.aJ);simp only[List.toList_toArray]at this;rw[er]at this;exact this
 ·rw[oQ];intro i j hi hj oK;rw[aX]at hi hj;have:=ri i j oK wf;unfold rk at this;have fu:=g.size;simp only[List.getElem_map,Array.getElem_toList];have e:∀k (hk:k<p.size),p.getD k 0=p[k]:=λk hk=>by simp[Rr,hk]
  rw[e i om,e j om]at this;have e2:∀k,k<ps.length->(ps.map (·.1)).getD k 0=(ps.getD k (0,.aJ)).1:=λk hk=>by simp[hk]
  have lt:∀k (hk:k<p.size),p[k]<ps.length:=λk hk=>by
   have:=g.lt (k:=k) wf;rw[e k hk]at this;exact this
  dsimp only at this;rw[e2 _ (lt i om),e2 _ (lt j om)]at this;exact this
 ·rw[yR];refine List.map_congr_left λi hi=>?_
  have hl:i<ps.length:=by
   have:=gp.mem_iff.mp hi;simpa using this
  simp[hl]
section
variable{X:Cx}
theorem adF(M:Model)(h:Heap)(i:Int)(t:Tok):Looks M h (typeOf (.int i t)) (.type "int"):=Looks.of_pure rfl
def akp(K:W.Frag):List V->Hp->VK->Prop:=λxs H Q=>∃(p:Addr) (ps:List (Int×V)),xs=[.ref p]/\av K H p (ps.map (·.2))/\ps.length<64/\(∀q∈ps,∃a ys,q.2=.ref a/\aE K H a (.int q.1::ys))/\(ps.map (·.1)).Nodup/\
 ∀l qs,H l=none->A6 qs ps->qs.Pairwise (λa b=>a.1<b.1)->Q (.ref l) (upd H l (.lst (qs.map (·.2))))
theorem ac8:mi X (.builtin "sorted") (akp X.K):=by
 intro p_ s σ H xs us Q I r h;obtain⟨p,ps,rfl,hl,h64,ht,nd,q⟩:=h;obtain⟨u,rfl,rx⟩:=vals1 r;cases rx;obtain⟨ak,rv,pl,hz⟩:=I.list hl;have hlen:=rv.length;rw[aX]at hlen;refine aez (H:=H) (collect_list pl.isList ?_ (by rw[lu];lia))
 have kp:∀b o,s.heap.get? b=some o->((s.heap.push (seqObj "list" #[] 0)).update s.heap.objs.size (rG (· ++ ak.toArray))).get? b=some o:=λb o e=>by
  rw[P7 _ _ _ _ (eO (bJ e))];exact bo _ e
 have tup:∀i,i<ps.length->∃a o vs n,ak.getD i iI=.ref a/\s.heap.get? a=some o/\o.cls=.type "tuple"/\o.data=.seq vs n/\∃t rest,vs.toList=nh ((ps.map (·.1)).getD i 0) t::rest:=λi hi=>by
  obtain⟨a,ys,e1,e2⟩:=ht _ (AB hi);obtain⟨vs,rv2,⟨o,eo,co,n,do_⟩,_⟩:=I.tuple e2;obtain⟨u,eu,ru⟩:=rv.get (i:=i) (x:=.ref a) (by simp[hi,e1]);cases ru;cases rv2 with
  | cons ra rr=>
   obtain⟨t,rfl⟩:=ra;exact⟨a,o,_,n,by rw[pY,eu];rfl,eo,co,do_,t,_,by simp[hi];rfl⟩
 refine⟨ps.map (·.2),λi=>(ps.map (·.1)).getD i 0,I.kept kp,rv,⟨li,λi j hi hj e=>?_,λh2=>?_⟩,λl zs hn so=>?_⟩
 ·have hi':i<ps.length:=wg;have Cu:j<ps.length:=wg;have e':(ps.map (·.1))[i]'(by simpa using hi')=(ps.map (·.1))[j]'(by simpa using Cu):=by simpa[hi',Cu]using e
  rcases HE i j with z | z | z
  ·exact absurd e' (oQ.mp nd i j _ _ z)
  ·exact z
  ·exact absurd e'.symm (oQ.mp nd j i _ _ z)
 ·refine⟨tuples' true,λA s' k=>?_⟩
  have nL:∀b o,s.heap.get? b=some o->o.cls=.type "tuple"->(∃vs n,o.data=.seq vs n)->b≠X.env.locals:=λb o e _ d z=>by
   obtain⟨m,F⟩:=I.fr;obtain⟨o',es,ep,e',d',_⟩:=F.ns;rw[z,e']at e;cases e;obtain⟨vs,n,d⟩:=d;rw[d']at d;cases d
  have at':∀i,i<ps.length->∃a o vs n,ak.getD i iI=.ref a/\s'.heap.get? a=some o/\o.cls=.type "tuple"/\o.data=.seq vs n/\∃t rest,vs.toList=nh ((ps.map (·.1)).getD i 0) t::rest:=λi hi=>by
   obtain⟨a,o,vs,n,e1,e2,e3,e4,e5⟩:=tup i hi;exact⟨a,o,vs,n,e1,k _ _ (nL a o e2 e3 ⟨vs,n,e4⟩) (kp _ _ e2),e3,e4,e5⟩
  constructor
  ·intro Q' hQ
   have kt:∀m,m<=ps.length->∃fs:List Value,fs.length=m/\KatTups s'.heap (ak.drop (ps.length-m)) fs/\∀v∈fs,∃i t,v=nh i t:=λm=>by
    induction m with
    | zero=>
     intro _;refine⟨[],rfl,?_,λv hv=>nomatch hv⟩;rw[aay li];exact .nil
    | succ m ih=>
     intro hm;obtain⟨fs,h1,h2,h3⟩:=ih li;obtain⟨a,o,vs,n,e1,e2,e3,e4,t,rest,e5⟩:=at' (ps.length-(m+1)) om
     have hd:ak.drop (ps.length-(m+1))=.ref a::ak.drop (ps.length-m):=by
      rw[aas om,show ps.length-(m+1)+1=ps.length-m by lia]
      congr 1
      rw[<-e1];simp[show ps.length-(m+1)<ak.length by omega]
     rw[hd];refine⟨nh ((ps.map (·.1)).getD (ps.length-(m+1)) 0) t::fs,by rw[fG,h1],.cons e2 e3 e4 ?_ h2,λv hv=>?_⟩
     ·have:vs.toList[0]?=some (nh ((ps.map (·.1)).getD (ps.length-(m+1)) 0) t):=by rw[e5];rfl
      rw[aaC]at this;exact this
     ·rcases bq.mp hv with z | z
      ·exact⟨_,_,z⟩
      ·exact h3 v z
   obtain⟨fs,h1,h2,h3⟩:=kt ps.length (aF _);rw[Nat.sub_self,HV]at h2;refine kat_kind (T:=.type "int") h2 li (λv hv=>?_) qc (by rw[show (oY "int" != oY "tuple")=true by decide];exact hQ);obtain⟨i,t,e⟩:=h3 v hv;rw[e];exact adF _ _ _ _
  ·intro i j C hi hj ne c;obtain⟨a,o,vs,n,e1,e2,e3,e4,t,rest,e5⟩:=at' i wg;obtain⟨a',o',oB,n',CU,e2',e3',e4',t',aqd,e5'⟩:=at' j wg;unfold kas_ask;rw[e1,CU];refine kat_lt e2 e4 e2' e4' ?_;rw[e5,e5'];refine kat_cons (wpAny_eqBool_int ?_)
   have i8:(ps.map (·.1)).getD i 0≠(ps.map (·.1)).getD j 0:=λe=>by
    have hi':i<ps.length:=wg;have Cu:j<ps.length:=wg;have e':(ps.map (·.1))[i]'(by simpa using hi')=(ps.map (·.1))[j]'(by simpa using Cu):=by simpa[hi',Cu]using e
    rcases aaR ne with z | z
    ·exact absurd e' (oQ.mp nd i j _ _ z)
    ·exact absurd e'.symm (oQ.mp nd j i _ _ z)
   rw[show ((ps.map (·.1)).getD i 0 == (ps.map (·.1)).getD j 0)=false by simpa using i8];exact kat_no (oneLt_int c)
 ·obtain⟨qs,g,pw,rfl⟩:=acF so;exact q l qs hn g pw
end
def Asc(xs:Array Nat):Prop:=xs.toList.Pairwise (· < ·)
structure aqb(led:Bool)(t:SetTable):Prop where
 dum:t.dummies=#[]
 led:t.led=led
 asc:t.plain=true->Asc t.place
section
variable{P:Program}{w:World}{A:Around}{E:Value->Shared->Prop}{s:Shared}{a:Addr}{ns:List Int}
end
section
variable{P:Program}{w:World}{A:Around}{E:Value->Shared->Prop}{s:Shared}
set_option maxHeartbeats 6000000 in
end
namespace SF
end SF
section
variable{M:Model}{A:Around}{E:Value->Shared->Prop}{s:Shared}
end
section
variable{P:Program}{w:World}{A:Around}{E:Value->Shared->Prop}{s:Shared}{it a:Addr}{ord:List Int}{i:Nat}
end
section
variable{P:Program}{w:World}{A:Around}{E:Value->Shared->Prop}{s:Shared}{it a:Addr}{ord:List Int}{i:Nat}
end
section
variable{P:Program}{w:World}{A:Around}{E:Value->Shared->Prop}{s:Shared}{a:Addr}{ns:List Int}
end
section
variable{X:Cx}
end
end L2
namespace TL
open PySem PySem.Spec PyProof.Rows L2 L3
variable{P:Program}{w:World}{K:PySem.W.Frag}{mg:Str->Option Value}{base:Heap}
structure Ent where
 (t n num d:Int)
 deriving DecidableEq
def bV(es:List Ent)(i:Nat):List Ent:=es.filter λe=>decide (e.n=(i:Int))
def jQ(H:Hp)(v:V)(e:Ent):Prop:=∃p s,v=.ref p/\H p=some (.tup [.int e.t,.ref s])/\H s=some (.tup [.int e.n,.int e.num,.int e.d])
def B0(H:Hp)(b:Addr)(es:List Ent):Prop:=∃vs,H b=some (.lst vs)/\Paired (jQ H) vs es
def UK:List Str:=["add","latest","fronts","take","is_empty","listed","twin"]
structure mG(tn:Int)(es:List Ent):Prop where
 asc:es.Pairwise λx y=>x.t<y.t
 nm:∀e∈es,0<=e.n/\e.n<12
 lt:∀e∈es,e.t<tn
structure c7(H:Hp)(a C:Addr)(kd:Str)(tn:Int)(es:List Ent)(q:Addr)(qr:List Addr):Prop where
 obj:∃dx fs,H a=some (.ins C dx fs)/\fs.lookup ("kind" : Str)=some (V.str kd)/\fs.lookup ("turn" : Str)=some (V.int tn)/\fs.lookup ("queues" : Str)=some (V.ref q)/\(∀m∈UK,fs.lookup m=none)/\fs.length<=20
 qs:H q=some (.lst (qr.map V.ref))
 len:qr.length=12
 nd:qr.Nodup
 nq:q∉qr
 jC:∀i b,qr[i]?=some b->B0 H b (bV es i)
 wf:mG tn es
structure gF(F:List Addr)(H H':Hp):Prop where
 k:∀b o,b∉F->(∀ps,o≠.eZ ps)->H b=some o->H' b=some o
 t:∀b,H' b=none->H b=none
theorem gF.of{F:List Addr}{H H':Hp}(s:af H H'):gF F H H':=⟨λb o _ _ e=>s b o e,λb h=>s.free h⟩
theorem gF.trans{F:List Addr}{H H1 H2:Hp}(a:gF F H H1)(b:gF F H1 H2):gF F H H2:=⟨λc o h1 h2 e=>b.k c o h1 h2 (a.k c o h1 h2 e),λc h=>a.t c (b.t c h)⟩
theorem gF.XS{P:Addr}{H H':Hp}{ps F6:Array Value}(s:vA P H H')(hP:H P=some (.eZ ps))(Pk:H' P=some (.eZ F6)):gF [] H H':=
 ⟨λb o _ n e=>s b o (λz=>by rw[z,hP]at e;cases e;exact n ps rfl) e,λb h=>by
  cases e:H b with
  | none=>rfl
  | some o=>
   by_cases z:b=P
   ·rw[z,Pk]at h;cases h
   ·rw[s b o z e]at h;cases h⟩
theorem AM{P:Addr}{pos:Pos}{qual:Str}{F:List Addr}{H H':Hp}(h:cJ P pos qual H)(k:∀b o,b∉F->H b=some o->H' b=some o)(hF:∀b∈F,∀o,H b=some o->(∃C dx fs,o=.ins C dx fs)\/∃xs,o=.lst xs):cJ P pos qual H':=by
 refine ah h λps hP hc=>?_
 have nP:P∉F:=λz=>by
  rcases hF P z _ hP with ⟨_,_,_,e⟩ | ⟨_,e⟩ <;> cases e
 refine ar ps (k P _ nP hP) ?_;rcases hc with e | ⟨c,e,hc⟩
 ·exact .inl e
 ·refine .inr (ar c e (k c _ (λz=>?_) hc));rcases hF c z _ hc with ⟨_,_,_,e⟩ | ⟨_,e⟩ <;> cases e
theorem jd{P:Addr}{pos:Pos}{qual:Str}{H H':Hp}(h:cJ P pos qual H)(k:af H H'):cJ P pos qual H':=AM (F:=[]) h (λb o _ e=>k b o e) λb hb=>nomatch hb
theorem jQ.keep{F:List Addr}{H H':Hp}{v:V}{e:Ent}(h:jQ H v e)(k:∀b xs,H b=some (.tup xs)->H' b=some (.tup xs)):jQ H' v e:=let ⟨p,s,e1,e2,e3⟩:=h;⟨p,s,e1,k _ _ e2,k _ _ e3⟩
theorem rJ{α β:Type}{F G:α->β->Prop}(f:∀a b,F a b->G a b):∀{l:List α} {r:List β},Paired F l r->Paired G l r
 | _,_,.nil=>.nil
 | _,_,.cons h t=>.cons (f _ _ h) (rJ f t)
theorem B0.keep{H H':Hp}{b:Addr}{es:List Ent}(h:B0 H b es)(kb:∀o,H b=some o->H' b=some o)(k:∀b xs,H b=some (.tup xs)->H' b=some (.tup xs)):B0 H' b es:=let ⟨vs,e,r⟩:=h;⟨vs,kb _ e,rJ (λ_ _ z=>z.keep (F:=[]) k) r⟩
theorem c7.keep{H H':Hp}{a C q:Addr}{kd:Str}{tn:Int}{es:List Ent}{qr:List Addr}(T:c7 H a C kd tn es q qr)(k:∀b∈a::q::qr,∀o,H b=some o->H' b=some o)(kt:∀b xs,H b=some (.tup xs)->H' b=some (.tup xs)):c7 H' a C kd tn es q qr:=by
 obtain⟨⟨dx,fs,e,r⟩,qs,len,nd,nq,jC,wf⟩:=T;exact⟨⟨dx,fs,k a (by simp) _ e,r⟩,k q (by simp) _ qs,len,nd,nq,λi b hb=>(jC i b hb).keep (λo=>k b (by simp[cQ hb]) o) kt,wf⟩
theorem c7.amB{F:List Addr}{H H':Hp}{a C q:Addr}{kd:Str}{tn:Int}{es:List Ent}{qr:List Addr}(T:c7 H a C kd tn es q qr)(k:gF F H H')(hF:∀b∈F,b∉a::q::qr)(hT:∀b∈F,∀xs,H b≠some (.tup xs)):c7 H' a C kd tn es q qr:=by
 refine T.keep (λb hb o e=>k.k b o (λz=>hF b z hb) (λps z=>?_) e) λb xs e=>k.k b _ (λz=>hT b z xs e) (λps z=>by cases z) e;subst z;rcases bq.mp hb with z | z
 ·refine a9 T.obj λdx fs e' _=>?_;rw[z,e']at e;cases e
 ·rcases bq.mp z with z | z
  ·rw[z,T.qs]at e;cases e
  ·refine oE (uH z) λi aa=>?_;refine oE aa λhi ez=>?_;obtain⟨vs,e',_⟩:=T.jC i b (by rw[<-ez];exact bb hi);rw[e']at e;cases e
theorem c7.gm{H H':Hp}{a C q:Addr}{kd:Str}{tn:Int}{es:List Ent}{qr:List Addr}(T:c7 H a C kd tn es q qr)(k:gF [] H H'):c7 H' a C kd tn es q qr:=T.amB k (λb hb=>nomatch hb) λb hb=>nomatch hb
theorem c7.kinds{H:Hp}{a C q:Addr}{kd:Str}{tn:Int}{es:List Ent}{qr:List Addr}(T:c7 H a C kd tn es q qr):∀b∈a::q::qr,∀o,H b=some o->(∃C dx fs,o=.ins C dx fs)\/∃xs,o=.lst xs:=λb hb o e=>by
 rcases bq.mp hb with z | z
 ·refine a9 T.obj λdx fs e' _=>?_;rw[z,e']at e;cases e;exact .inl (⟨_,_,_,rfl⟩)
 ·rcases bq.mp z with z | z
  ·rw[z,T.qs]at e;cases e;exact .inr ⟨_,rfl⟩
  ·refine oE (uH z) λi aa=>?_;refine oE aa λhi ez=>?_;obtain⟨vs,e',_⟩:=T.jC i b (by rw[<-ez];exact bb hi);rw[e']at e;cases e;exact .inr ⟨_,rfl⟩
theorem c7.there{H:Hp}{a C q:Addr}{kd:Str}{tn:Int}{es:List Ent}{qr:List Addr}(T:c7 H a C kd tn es q qr):∀b∈a::q::qr,∃o,H b=some o:=λb hb=>by
 rcases bq.mp hb with z | z
 ·refine a9 T.obj λdx fs e' _=>?_;exact⟨_,by rw[z];exact e'⟩
 ·rcases bq.mp z with z | z
  ·exact⟨_,by rw[z];exact T.qs⟩
  ·refine oE (uH z) λi aa=>?_;refine oE aa λhi ez=>?_;obtain⟨vs,e',_⟩:=T.jC i b (by rw[<-ez];exact bb hi);exact⟨_,e'⟩
def D5(es:List Ent)(i:Nat):Option Ent:=(bV es i).getLast?
def mf(es:List Ent):List Int:=((List.range 12).filter λi=>decide (bV es i≠[])).map λ(i:Nat)=>(i:Int)
def ju(kd:Str)(es:List Ent):List Int:=if kd = "row" then (es.head?.map (·.n)).toList else mf es
def lN(es:List Ent)(n:Int):List Ent:=es.eraseP λe=>decide (e.n=n)
theorem aif(i:Nat):bV [] i=[]:=rfl
theorem T9(es:List Ent)(e:Ent)(i:Nat):bV (es++[e]) i=if e.n=(i:Int) then bV es i++[e] else bV es i:=by
 unfold bV;rw[Dd]
 by_cases h:e.n=(i:Int)
 ·rw[if_pos h];simp[h]
 ·rw[if_neg h];simp[h]
theorem AU{es:List Ent}{n:Int}:n∈mf es↔∃i:Nat,i<12/\n=i/\bV es i≠[]:=by
 unfold mf;rw[rB];constructor
 ·rintro⟨i,hi,rfl⟩;rw[rm,AF]at hi;exact c8 i hi.1 rfl (by simpa using hi.2)
 ·rintro⟨i,h1,rfl,h2⟩;exact ar i (by rw[rm,AF];exact⟨h1,by simpa using h2⟩) rfl
theorem Tb{es:List Ent}{e:Ent}{i:Nat}(h:es.head?=some e)(hi:e.n=(i:Int)):(bV es i).head?=some e:=by
 cases es with
 | nil=>cases h
 | cons x r=>
  cases h;unfold bV;rw[uO,if_pos (by simpa using hi)];rfl
theorem aj3{tn:Int}{es:List Ent}{n num d:Int}(w:mG tn es)(h0:0<=n)(h1:n<12):mG (tn+1) (es++[⟨tn,n,num,d⟩]):=by
 refine⟨List.pairwise_append.mpr ⟨w.asc,List.pairwise_singleton _ _,λx hx y hy=>?_⟩,λe he=>?_,λe he=>?_⟩
 ·rw[gz.mp hy];exact w.lt x hx
 ·rcases jo.mp he with z | z
  ·exact w.nm e z
  ·rw[gz.mp z];exact⟨h0,h1⟩
 ·rcases jo.mp he with z | z
  ·have:=w.lt e z;lia
  ·rw[gz.mp z];show tn<tn+1;lia
theorem ahN{tn:Int}{es:List Ent}(w:mG tn es)(n:Int):mG tn (lN es n):=by
 have sub:(lN es n).Sublist es:=List.eraseP_sublist;exact⟨w.asc.sublist sub,λe he=>w.nm e (sub.subset he),λe he=>w.lt e (sub.subset he)⟩
theorem af6(es:List Ent)(n:Int)(i:Nat):bV (lN es n) i=if n=(i:Int) then (bV es i).tail else bV es i:=by
 induction es with
 | nil=>unfold lN bV;simp
 | cons e r ih=>
  unfold lN at ih ⊢;rw[List.eraseP_cons]
  by_cases h:e.n=n
  ·rw[decide_eq_true h,cond_true];unfold bV
   by_cases hi:n=(i:Int)
   ·rw[if_pos hi,uO,if_pos (by simpa using h.trans hi)];rfl
   ·rw[if_neg hi,uO,if_neg (by simpa using λz:e.n=(i:Int)=>hi (h.symm.trans z))]
  ·rw[decide_eq_false h,cond_false];unfold bV at ih ⊢;rw[uO,uO]
   by_cases he:e.n=(i:Int)
   ·have Cr:¬n=(i:Int):=λz=>h (he.trans z.symm);rw[if_neg Cr]at ih;simp only[decide_eq_true he,if_true];rw[if_neg Cr,ih]
   ·simp only[decide_eq_false he,wI,if_false];rw[ih]
structure BT(mg:Str->Option Value):Prop where
 jU:mg "isinstance" = none
 int:mg "int" = none
 bool:mg "bool" = none
 str:mg "str" = none
 len:mg "len" = none
 all:mg "all" = none
 range:mg "range" = none
 enum:mg "enumerate" = none
 min:mg "min" = none
 sorted:mg "sorted" = none
structure lC(K:W.Frag)(C:Addr):Prop where
 cl:eh K C
 kind:bj K C "kind"
 turn:bj K C "turn"
 rP:bj K C "queues"
def So:Sp:=λvs H Q _=>∃v T,vs=[v]/\tyName H v=some T/\Q (.bl (qG v)) H
theorem af0:bg ["thing"] ["thing"] (aQ Kd):=bu
theorem aeL{f:Addr}{fd:aV}(F:aW K "is_whole" "is_whole" Kd f fd)(B:BT mg):aw P w K mg base az 1 f fd ["thing"] So:=by
 refine F.ok af0 (λvs H Q E h=>?_) λaI A _ s H vs Q E hr h=>?_
 ·refine a9 h λv T aa _=>?_;clear h;subst aa;rfl
 ·refine cG h λv T aa ht k=>?_;clear h;subst aa;refine⟨_,aB (a8 (zm (cA jK rfl B.jU jc (ae (pv 0) (ae (pf (v:=.ty "int") rfl B.int Bb rfl) ag))) (vo (Lm (cA jK rfl B.jU jc (ae (pv 0) (ae (pf (v:=.ty "bool") rfl B.bool boot_bool rfl) ag))))))),?_⟩;have e:=Va ht;refine ar v rfl (cY _ _ _ _ (gD _ rfl (nF ht) rfl (nz ht qc) (ar _ rfl (MW (λh1=>?_) λh1=>?_))))
  ·refine ar v rfl (cY _ _ _ _ (gD _ rfl (nF ht) rfl (nz ht qc) (ar _ rfl ?_)));rw[h1,oU]at e;rw[e];exact k
  ·rw[h1,rn]at e;rw[e];exact k
def ML(C:Addr):Sp:=λvs H Q _=>∃x dx kd,vs=[.ref x,.str kd]/\H x=some (.ins C dx [])/\∀H' q qr,c7 H' x C kd 0 [] q qr->(∀b o,b≠x->H b=some o->H' b=some o)->(∀b∈q::qr,H b=none)->Q .aJ H'
theorem anW:bg ["self","kind"] ["self","kind"] (aQ BW):=bu
theorem aiH:(["name"]:List Str).Nodup:=dk
theorem amA(f:Str)(u:V):(aD f u []).length<1000:=by
 have h1:=ko f u [];have h3:([]:List (Str×V)).length=0:=rfl;exact wb
theorem amz(f g:Str)(u v:V):(aD f u (aD g v [])).length<1000:=by
 have h1:=ko f u (aD g v []);have h2:=ko g v [];have h3:([]:List (Str×V)).length=0:=rfl;exact xi
theorem Tt:∀m∈UK,¬m = "kind"/\¬m = "turn"/\¬m = "queues":=dk
theorem i6(kd:Str)(q:Addr):(aD "queues" (.ref q) (aD "turn" (.int 0) (aD "kind" (.str kd) [])))=[(("kind" : Str),V.str kd),(("turn" : Str),V.int 0),(("queues" : Str),V.ref q)]:=by
 have n1:¬("kind" : Str) = "turn":=dk;have n2:¬("kind" : Str) = "queues":=dk;have n3:¬("turn" : Str) = "queues":=dk;simp only[aD,n1,n2,n3,if_false]
theorem VM{f C:Addr}{fd:aV}(F:aW K "__init__" "Tray.__init__" BW f fd)(B:BT mg)(cT:lC K C)(mN:∃u,mg "NAMES" = some u/\RelV (.int 12) u):aw P w K mg base az 1 f fd ["self","kind"] (ML C):=by
 refine ah mN λuN mN rN=>?_;refine F.ok anW (λvs H Q E h=>?_) λaI A _ s H vs Q E hr h=>?_
 ·refine eV h λx dx kd aa _=>?_;clear h;subst aa;rfl
 ·refine kA h λx dx kd aa hx k=>?_;clear h;subst aa
  refine⟨_,ax (dr (pv 0) (pv 1) rfl) (ax (dr (pv 0) ay rfl) (aB (dr (pv 0) (ji (N:=["name"]) (idx:=[]) rfl (dN.of (by kernel_rfl)) (je (bX _))
   (wX rfl B.range (ae (fV rfl mN rN) ag)) (λ_ _ _ _=>de (i:=0) aiH rfl (aR rfl) (.inr rfl)) (λ_ _ _ _=>jt) λ_ _ _ _=>dW ag) rfl))),?_⟩
  refine vr rfl (vr rfl (iU x C dx ([]) rfl hx cT.cl cT.kind qc ?_));refine ar _ rfl (⟨x,C,dx,(g9 _ rfl au cT.cl cT.turn (amA _ _) ?_)⟩);rw[nj];refine⟨12,rfl,qc,qc,?_⟩;generalize yz:upd H x (.ins C dx (aD "turn" (.int 0) (aD "kind" (.str kd) [])))=H1;have eN:H1 x=some (.ins C dx (aD "turn" (.int 0) (aD "kind" (.str kd) []))):=by rw[<-yz];exact au
  have n1:∀b,H1 b=none->H b=none:=λb e=>by
   rw[<-yz]at e
   by_cases z:b=x
   ·rw[z,au]at e;cases e
   ·rwa[aj z]at e
  refine iW (n:=12) (λi ys H'=>∃qr:List Addr,ys=qr.map V.ref/\qr.length=i/\qr.Nodup/\(∀b∈qr,H' b=some (.lst [])/\H1 b=none)/\af H1 H') qc ⟨[],rfl,rfl,.nil,(λb hb=>nomatch hb),af.refl _⟩ ?_ ?_ ?_ ?_ ?_
  ·rintro i ys H' ⟨qr,rfl,hl,_⟩;rw[aX,hl];exact aF _
  ·rintro i ys H' hi _;exact hi
  ·rintro ys H' _;exact aF _
  ·rintro i ys H' hi ⟨qr,rfl,hl,nd,hq,sm⟩ y fb ⟨eH,ey⟩;subst eH;dsimp only[ij,jS];rw[if_pos rfl];refine⟨qc,λp hp=>⟨qr++[p],by simp,by simp[hl],?_,λb hb=>?_,aH sm hp⟩⟩
   ·refine aa5.mpr (iq nd (by simp) λb hb c hc=>?_);rw[gz.mp hc];exact ba (hq b hb).1 hp
   ·rcases jo.mp hb with z | z
    ·exact⟨by rw[aj (ba (hq b z).1 hp)];exact(hq b z).1,(hq b z).2⟩
    ·rw[gz.mp z];refine⟨au,?_⟩;cases e:H1 p with
     | none=>rfl
     | some o=>rw[sm _ _ e]at hp;cases hp
  ·rintro ys H' ⟨qr,rfl,hl,nd,hq,sm⟩;refine⟨by rw[aX,hl];decide,λq Ac=>?_⟩;have nx:x≠q:=ba (sm _ _ eN) Ac;refine vr rfl (⟨x,C,dx,(g9 _ rfl (by rw[aj nx];exact sm _ _ eN) cT.cl cT.rP (amz _ _ _ _) ?_)⟩);have vU:q∉qr:=λz=>by rw[(hq q z).1]at Ac;cases Ac
   have xqr:x∉qr:=λz=>by have:=(hq x z).2;rw[eN]at this;cases this
   refine k _ q qr ⟨⟨dx,_,au,?_,?_,?_,?_,?_⟩,by rw[aj (dU nx),au],hl,nd,vU,λi b hb=>⟨[],?_,by rw[aif];exact .nil⟩,⟨.nil,(λe he=>nomatch he),(λe he=>nomatch he)⟩⟩ (λb o hb e=>?_) λb hb=>?_
   ·rw[eP,if_neg dk,eP,if_neg dk,eP,if_pos rfl]
   ·rw[eP,if_neg dk,eP,if_pos rfl]
   ·rw[eP,if_pos rfl]
   ·intro m hm;refine gH (Tt m hm) λm1 m2 m3=>?_;rw[eP,if_neg m3,eP,if_neg m2,eP,if_neg m1];rfl
   ·rw[i6];show 3<=20;decide
   ·have hm:=cQ hb;have nbx:b≠x:=λz=>xqr (z ▸ hm);have nbq:b≠q:=λz=>vU (z ▸ hm);rw[aj nbx,aj nbq];exact(hq b hm).1
   ·have e1:H1 b=some o:=by rw[<-yz,aj hb];exact e
    have e2:=sm _ _ e1;rw[aj hb,aj (ba e2 Ac)];exact e2
   ·refine n1 b ?_;rcases bq.mp hb with z | z
    ·subst z;cases e:H1 b with
     | none=>rfl
     | some o=>rw[sm _ _ e]at Ac;cases Ac
    ·exact(hq b z).2
def EO(F:List Addr)(H H':Hp):Prop:=∀b o,b∉F->H b=some o->H' b=some o
theorem akS{n:Nat}(h:n<=20000):n<aP:=by rw[lu];exact wb
theorem Ks(es:List Ent)(i:Nat):(bV es i).length<=es.length:=Hv _ _
theorem IE{α β:Type}{F:α->β->Prop}{a:α}{b:β}:∀{l:List α} {r:List β},Paired F l r->F a b->Paired F (l++[a]) (r++[b])
 | _,_,.nil,h=>.cons h .nil
 | _,_,.cons g t,h=>.cons g (IE t h)
theorem c7.WC{H:Hp}{a C q:Addr}{kd:Str}{tn:Int}{es:List Ent}{qr:List Addr}(T:c7 H a C kd tn es q qr){n:Int}(h0:0<=n)(h1:n<12):∃i:Nat,n=i/\i<12/\∃b,qr[i]?=some b/\ir (qr.map V.ref) n=some (.ref b):=by
 have hl:=T.len;obtain⟨i,rfl⟩:∃i:Nat,n=i:=⟨n.toNat,xm⟩;have hi:i<qr.length:=li;refine c8 i rfl li (ar (qr[i]) (bb hi) (dG ?_));rw[fw,bb hi];rfl
theorem U8{f:Str}{v:V}:∀(fs:List (Str×V)) (u:V),fs.lookup f=some v->(aD f u fs).length=fs.length
 | [],_,e=>by cases e
 | (g,x)::r,u,e=>by
  by_cases h:g=f
  ·simp only[aD,if_pos h,fG]
  ·simp only[aD,if_neg h,fG];rw[U8 r u];have hb:(f == g)=false:=by simpa using λz=>h z.symm
   rw[pZ,hb]at e;exact e
def VD(C:Addr):Sp:=λvs H Q _=>∃a n num d kd tn es q qr,vs=[.ref a,.int n,.int num,.int d]/\c7 H a C kd tn es q qr/\0<=n/\n<12/\es.length<=20000/\
 ∀H',c7 H' a C kd (tn+1) (es++[⟨tn,n,num,d⟩]) q qr->EO (a::q::qr) H H'->Q .aJ H'
theorem akd:bg ["self","name","number","deed"] ["self","name","number","deed"] (aQ L6):=bu
theorem ais{f C:Addr}{fd:aV}(F:aW K "add" "Tray.add" L6 f fd)(cT:lC K C):aw P w K mg base az 1 f fd ["self","name","number","deed"] (VD C):=by
 refine F.ok akd (λvs H Q E h=>?_) λaI A _ s H vs Q E hr h=>?_
 ·obtain⟨a,n,num,d,kd,tn,es,q,qr,aa,_⟩:=h;subst aa;rfl
 ·obtain⟨a,n,num,d,kd,tn,es,q,qr,aa,T,h0,h1,hz,k⟩:=h;subst aa;refine⟨_,ax (dQ (mh PySem.F.plainAttrs_list PySem.F.slot_list_append PySem.F.type_list_append oZ (aT cI (a6 (pv 0) rfl) (pv 1)) (ae (eR (ae (a6 (pv 0) rfl) (ae (eR (ae (pv 1) (ae (pv 2) (ae (pv 3) ag)))) ag))) ag))) (aB (aeG (pv 0) ay ak5)),?_⟩;refine iV (id T.obj) λdx fs ea e1 e2 e3 em el=>?_;refine aL (T.WC h0 h1) λi aa hi bc=>?_;subst aa;refine ah bc λb hb hat=>?_;refine ah (T.jC i b hb) λvs eb rb=>?_;have wC:b∈qr:=cQ hb;have lv:=Paired.length rb;have lq:=Ks es i;refine vF rfl ea cT.cl cT.rP e3 (vr rfl (rL (v:=.ref b) (av.of T.qs) (hat) ⟨.inl ⟨rfl,_,av.of eb⟩,?_⟩));refine vF rfl ea cT.cl cT.turn e2 (ar _ rfl (vr rfl (vr rfl ⟨by show 3<=aP;decide,(λst cR=>⟨by show 2<=aP;decide,λp hp=>?_⟩)⟩)));have zY:∀c o,H c=some o->c≠st:=λc o e=>ba e cR;have np:∀c o,H c=some o->c≠p:=λc o e=>ba (by rw[aj (zY c o e)];exact e) hp;have nsp:st≠p:=ba au hp;have up:∀c o,H c=some o->upd (upd H st (.tup [.int (i:Int),.int num,.int d])) p (.tup [.int tn,.ref st]) c=some o:=λc o e=>by rw[aj (np c o e),aj (zY c o e)];exact e
  have Cd:a≠b:=gj ea eb (by intro z;cases z);have N8:q≠b:=λz=>T.nq (z ▸ wC);refine jh b vs (.ref p) rfl rfl (up _ _ eb) (akS li) ?_;refine ar _ rfl (cY a C dx fs (g9 _ rfl (by rw[aj Cd];exact up _ _ ea) cT.cl cT.turn e2 ⟨_,_,rfl,rfl,dx,fs,by rw[aj Cd];exact up _ _ ea,wb,?_⟩));have pb:p≠b:=dU (np b _ eb);have pa:p≠a:=dU (np a _ ea);have sb:st≠b:=dU (zY b _ eb);have sa:st≠a:=dU (zY a _ ea);generalize CG:upd (upd (upd (upd H st (.tup [.int (i:Int),.int num,.int d])) p (.tup [.int tn,.ref st])) b (.lst (vs++[.ref p]))) a (.ins C dx (aD "turn" (.int (tn+1)) fs))=H2;have g0:∀c o,c≠a->c≠b->H c=some o->H2 c=some o:=λc o z1 z2 e=>by rw[<-CG,aj z1,aj z2];exact up c o e
  have ga:H2 a=some (.ins C dx (aD "turn" (.int (tn+1)) fs)):=by rw[<-CG];exact au
  have gb:H2 b=some (.lst (vs++[.ref p])):=by rw[<-CG,aj (dU Cd)];exact au
  have gp:H2 p=some (.tup [.int tn,.ref st]):=by rw[<-CG,aj pa,aj pb];exact au
  have gs:H2 st=some (.tup [.int (i:Int),.int num,.int d]):=by rw[<-CG,aj sa,aj sb,aj nsp];exact au
  have kt:∀c xs,H c=some (.tup xs)->H2 c=some (.tup xs):=λc xs e=>g0 c _ (gj e ea (by intro z;cases z)) (gj e eb (by intro z;cases z)) e;refine k H2 ⟨⟨dx,_,ga,?_,?_,?_,λm hm=>?_,?_⟩,g0 q _ (gj T.qs ea (by intro z;cases z)) N8 T.qs,T.len,T.nd,T.nq,λj c hc=>?_,aj3 T.wf h0 h1⟩ λc o hc e=>g0 c o (λz=>hc (by simp[z])) (λz=>hc (by simp[z,wC])) e
  ·rw[eP,if_neg dk];exact e1
  ·rw[eP,if_pos rfl]
  ·rw[eP,if_neg dk];exact e3
  ·rw[eP,if_neg (Tt m hm).2.1];exact em m hm
  ·have:=U8 fs (.int (tn+1)) e2;exact w7
  ·rw[T9]
   by_cases z:j=i
   ·subst z;rw[hb]at hc;cases hc;rw[if_pos rfl];exact ar _ gb (IE (rJ (λ_ _ y=>y.keep (F:=[]) kt) rb) ⟨p,st,rfl,gp,gs⟩)
   ·rw[if_neg λy=>z (by have:(i:Int)=(j:Int):=y;lia)]
    have Ob:c≠b:=λy=>z (by
     subst y;have n1:=eJ.mp hc;have n2:=eJ.mp hb;refine oE n1 λp1 q1=>?_;refine oE n2 λp2 q2=>?_;rcases HE j i with y | y | y
     ·exact absurd (q1.trans q2.symm) (oQ.mp T.nd j i p1 p2 y)
     ·exact y
     ·exact absurd (q2.trans q1.symm) (oQ.mp T.nd i j p2 p1 y))
    refine(T.jC j c hc).keep (λo e=>g0 c o (λy=>?_) Ob e) kt;refine ah (T.jC j c hc) λoB e' _=>?_;rw[y,ea]at e';cases e'
theorem adQ{α β:Type}{F:α->β->Prop}{r:List β}(h:Paired F [] r):r=[]:=by cases h;rfl
theorem QD{H:Hp}:∀{vs:List V} {l:List Ent},Paired (jQ H) vs l->vs≠[]->∃oB v e,vs=oB++[v]/\l.getLast?=some e/\jQ H v e
 | _,_,.nil,h=>absurd rfl h
 | _,_,.cons (a:=v) (b:=e) g t,_=>by
  cases t with
  | nil=>exact⟨[],v,e,rfl,rfl,g⟩
  | cons h t=>
   refine kA (QD (.cons h t) (by simp)) λoB v' e' q1 q2 q3=>?_;exact⟨(v::oB),v',e',(by rw[q1];rfl),(by rw[List.getLast?_cons_cons];exact q2),q3⟩
def Sv(C:Addr):Sp:=λvs H Q _=>∃a n kd tn es q qr,vs=[.ref a,.int n]/\c7 H a C kd tn es q qr/\0<=n/\n<12/\es.length<=20000/\
 (D5 es n.toNat=none->Q .aJ H)/\∀e st,D5 es n.toNat=some e->H st=some (.tup [.int e.n,.int e.num,.int e.d])->Q (.ref st) H
theorem RE:bg ["self","name","queue"] ["self","name"] (aQ Jv):=bu
theorem adT{f C:Addr}{fd:aV}(F:aW K "latest" "Tray.latest" Jv f fd)(B:BT mg)(cT:lC K C):aw P w K mg base az 1 f fd ["self","name"] (Sv C):=by
 refine F.ok RE (λvs H Q E h=>?_) λaI A _ s H vs Q E hr h=>?_
 ·obtain⟨a,n,kd,tn,es,q,qr,aa,_⟩:=h;subst aa;rfl
 ·obtain⟨a,n,kd,tn,es,q,qr,aa,T,h0,h1,hz,k0,k1⟩:=h;subst aa;refine⟨_,ax (bZ (i:=2) RE.nd rfl (aR rfl) (aT cI (a6 (pv 0) rfl) (pv 1))) (aB (a8 (SI (cw eC (cA iG rfl B.len PySem.boot_len (ae (pv 2) ag)) ay (bU _)) rS (aT du (aT cI (pv 2) (VI UJ ay)) ay)))),?_⟩;refine iV (id T.obj) λdx fs ea e1 e2 e3 em el=>?_;refine aL (T.WC h0 h1) λi aa hi bc=>?_;subst aa;refine ah bc λb hb hat=>?_;rw[lZ]at k0 k1;refine ah (T.jC i b hb) λvs eb rb=>?_;refine vF rfl ea cT.cl cT.rP e3 (vr rfl (rL (v:=.ref b) (av.of T.qs) (hat) ?_));refine vr rfl ⟨b,⟨_,rfl,.inl (av.of eb),rfl,_,rfl,cx (λz=>?_) λz=>?_⟩⟩
  ·have hv:vs=[]:=by
    injection z with z
    exact sW.mp li
   subst hv;refine k0 ?_;unfold D5;rw[adQ rb];rfl
  ·have hv:vs≠[]:=λy=>z (by rw[y];rfl);refine kA (QD rb hv) λoB v e q1 q2 aa=>?_;refine cG aa λp st aa q3 q4=>?_;subst aa;subst q1;refine vr rfl (ar _ rfl (rL (v:=.ref p) (av.of eb) (Tq _ _) (rT (v:=.ref st) (aE.of q3) (rfl) (k1 e st q2 q4))))
def TF(C:Addr):Sp:=λvs H Q _=>∃a kd tn es q qr,vs=[.ref a]/\c7 H a C kd tn es q qr/\∀H',af H H'->Q (.bl (decide (es=[]))) H'
theorem af2:bg ["self"] ["self"] (aQ Kf):=bu
theorem SQ:(["queue"]:List Str).Nodup:=dk
theorem aer{tn:Int}{es:List Ent}(w:mG tn es)(h:∀i,i<12->bV es i=[]):es=[]:=by
 cases es with
 | nil=>rfl
 | cons e r=>
  refine oA (w.nm e dE) λh0 h1=>?_;have:=h e.n.toNat li;unfold bV at this;rw[uO,if_pos (by simp;lia)]at this;cases this
theorem all_empty{tn:Int}{es:List Ent}(w:mG tn es):((List.range 12).map λi=>decide (bV es i=[])).all id=decide (es=[]):=by
 by_cases h:es=[]
 ·subst h;rfl
 ·rw[decide_eq_false h,AJ];cases e:(List.range 12).all (id ∘ λi=>decide (bV es i=[]))with
  | false=>rfl
  | true=>
   exfalso;exact h (aer w λi hi=>by simpa using yI.mp e i (AF.mpr hi))
theorem aeQ{f C:Addr}{fd:aV}(F:aW K "is_empty" "Tray.is_empty" Kf f fd)(B:BT mg)(cT:lC K C):aw P w K mg base az 1 f fd ["self"] (TF C):=by
 refine F.ok af2 (λvs H Q E h=>?_) λaI A _ s H vs Q E hr h=>?_
 ·refine ni h λa kd tn es q qr aa _=>?_;subst aa;rfl
 ·obtain⟨a,kd,tn,es,q,qr,aa,T,k⟩:=h;subst aa
  refine⟨_,aB (a8 (cA (DP rfl) rfl B.all boot_all (ae (ji (N:=["queue"]) (idx:=[]) rfl (dN.of (by kernel_rfl)) (je (bX _)) (qf (a6 (pv 0) rfl))
   (λ_ _ _ _=>de (i:=0) SQ rfl (aR rfl) (.inr rfl)) (λ_ _ _ _=>jt) λ_ _ _ _=>tH eC (cA (len_K K) rfl B.len PySem.boot_len (ae (pv 0) ag)) ay (bU _)) ag))),?_⟩
  refine iV (id T.obj) λdx fs ea e1 e2 e3 em el=>?_;refine ar _ rfl (cY a C dx fs (g9 _ rfl ea cT.cl cT.rP e3 (c8 q rfl ⟨_,av.of T.qs⟩ ?_)));have hl:=T.len;refine iW (n:=12) (λi ys H'=>H'=H/\ys=(List.range i).map λj=>V.bl (decide (bV es j=[]))) qc ⟨rfl,rfl⟩ ?_ ?_ ?_ ?_ ?_
  ·rintro i ys H' ⟨_,rfl⟩;rw[aX,De];exact aF _
  ·rintro i ys H' hi ⟨rfl,_⟩;exact eW _ (V.ref (qr[i]'wg)) (av.of T.qs) (by rw[fw,bb wg];rfl)
  ·rintro ys H' ⟨rfl,_⟩;exact ar _ (av.of T.qs) (by rw[aX,hl];exact aF _)
  ·rintro i ys H' hi ⟨rfl,rfl⟩ y fb ⟨eH,hy⟩;subst eH;have ur:=hy _ (av.of T.qs);rw[fw,bb wg]at ur;cases ur;refine ah (T.jC i _ (bb wg)) λvs eb rb=>?_;dsimp only[ij,jS];rw[if_pos rfl];refine vr rfl ⟨_,⟨_,rfl,.inl (av.of eb),rfl,rfl,?_⟩⟩;rw[yK,km]
   congr 1
   have lv:=Paired.length rb;simp only[iF,List.map_nil,List.cons.injEq,V.bl.injEq,and_true];refine decide_eq_decide.mpr ⟨λz=>?_,λz=>?_⟩
   ·injection z with z
    exact sW.mp li
   ·rw[z]at lv;rw[lv];rfl
  ·rintro ys H' ⟨rfl,rfl⟩;refine⟨by rw[aX,De];decide,λp hp=>?_⟩;refine dv p ((List.range 12).map λj=>decide (bV es j=[])) rfl (av.of (by rw[au,yR];rfl)) ?_;rw[all_empty T.wf];exact k _ (aH (af.refl _) hp)
def vt(es:List Ent)(i:Nat):List Int:=((List.range i).filter λj=>decide (bV es j≠[])).map λ(j:Nat)=>(j:Int)
theorem Q0(es:List Ent)(i:Nat):vt es (i+1)=vt es i++(if bV es i≠[] then [(i:Int)] else []):=by
 unfold vt;rw[yK,Dd,km]
 congr 1
 by_cases h:bV es i≠[]
 ·rw[if_pos h,List.filter_cons_of_pos (by simpa using h)];rfl
 ·rw[if_neg h,List.filter_cons_of_neg (by simpa using h)];rfl
theorem Rv(es:List Ent)(i:Nat):(vt es i).length<=i:=by
 unfold vt;rw[aX];have h:=Hv (λj=>decide (bV es j≠[])) (List.range i);rw[De]at h;exact h
def vW(es:List Ent)(n:Int):Int:=((bV es n.toNat).head?.map (·.t)).getD 0
theorem Ik{tn:Int}{es:List Ent}{e:Ent}(w:mG tn es)(h:es.head?=some e):e.n∈mf es:=by
 have hm:e∈es:=by
  cases es with
  | nil=>cases h
  | cons x r=>cases h;exact dE
 refine oA (w.nm e hm) λh0 h1=>?_;refine AU.mpr (c8 e.n.toNat li xm λz=>?_);have:=Tb (i:=e.n.toNat) h xm;rw[z]at this;cases this
theorem aib{tn:Int}{es:List Ent}{m:Int}(w:mG tn es)(hm:m∈mf es)(hb:∀n∈mf es,vW es m<=vW es n):(es.head?.map (·.n)).toList=[m]:=by
 refine aL (AU.mp hm) λi hi aa i8=>?_;subst aa;cases es with
 | nil=>exact absurd rfl i8
 | cons e r=>
  have h1:=hb e.n (Ik w rfl);refine oA (w.nm e dE) λn0 n1=>?_
  have k1:vW (e::r) e.n=e.t:=by
   unfold vW;rw[Tb (i:=e.n.toNat) (e:=e) rfl xm];rfl
  cases q:bV (e::r) i with
  | nil=>exact absurd q i8
  | cons x l=>
   have k2:vW (e::r) (i:Int)=x.t:=by
    unfold vW;rw[lZ,q];rfl
   have hx:x∈bV (e::r) i:=by rw[q];exact dE
   unfold bV at hx;refine oA (rm.mp hx) λeN lG=>?_;have hn:x.n=(i:Int):=by simpa using lG
   rcases bq.mp eN with z | z
   ·show [e.n]=[(i:Int)];rw[<-z,hn]
   ·have:=(List.pairwise_cons.mp w.asc).1 x z;rw[k1,k2]at h1;lia
theorem aic{tn:Int}{es:List Ent}(w:mG tn es)(h:¬1<(mf es).length):(es.head?.map (·.n)).toList=mf es:=by
 cases es with
 | nil=>rfl
 | cons e r=>
  have hm:=Ik (e:=e) w rfl
  match q:mf (e::r)with
  | []=>rw[q]at hm;cases hm
  | [x]=>
   rw[q]at hm;rw[<-gz.mp hm];rfl
  | _::_::_=>
   rw[q]at h;simp at h
abbrev LP:Pos:=⟨183,35,183,71⟩
abbrev LQ:Str:=("Tray.fronts" : Str) ++ ".<locals>." ++ "<lambda>"
def Jo(C PT:Addr):Sp:=λvs H Q _=>∃a kd tn es q qr,vs=[.ref a]/\c7 H a C kd tn es q qr/\cJ PT LP LQ H/\
 ∀H' l,gF [] H H'->cJ PT LP LQ H'->H l=none->H' l=some (.lst ((ju kd es).map V.int))->Q (.ref l) H'
theorem RF:bg ["self","names"] ["self"] (aQ DI):=bu
theorem VQ:(["name","queue"]:List Str).Nodup:=dk
theorem EX{x y:Str}(h:V.str x=V.str y):x=y:=by injection h
theorem adM{PT:Addr}{H H1 H2:Hp}{ps:Array Value}(s:af H H1){F6:Array Value}(t:vA PT H1 H2)(hP:H1 PT=some (.eZ ps))(Pk:H2 PT=some (.eZ F6)):gF [] H H2:=(gF.of s).trans (gF.XS t hP Pk)
theorem Q9{f C PT c:Addr}{fd:aV}(F:vI K "fronts" "Tray.fronts" DI f fd c)(B:BT mg)(cT:lC K C)(hC:W.CodeHd base c PT)(hB:ub mg base):aw P w K mg base az 2 f fd ["self"] (Jo C PT):=by
 refine F.ok RF (λvs H Q E h=>?_) λA outer s H vs Q E hr h=>?_
 ·refine ni h λa kd tn es q qr aa _=>?_;subst aa;rfl
 ·obtain⟨a,kd,tn,es,q,qr,aa,T,sq,k⟩:=h;subst aa;have Zu:=hr.dp
  refine⟨_,ax (Q7 (i:=1) (N:=["name","queue"]) (idx:=[]) RF.nd rfl rfl rfl (dN.of (by kernel_rfl)) (IG (bX _) (bX _)) (D2 (b:=true) rfl B.enum (ae (a6 (pv 0) rfl) ag))
    (λ_ _ _ _=>zk rfl (pe (de (i:=0) VQ rfl (aR rfl) (.inr rfl)) (pe (de (i:=1) VQ rfl (aR rfl) (.inr rfl)) za)))
    (λ_ _ _ _=>D1 (cw EF (cA (len_K K) rfl B.len PySem.boot_len (ae (pv 1) ag)) ay (bU _))) λ_ _ _ _=>pv 0)
   (ax (cF (PW.pt (pw_and (cw eC (a6 (pv 0) rfl) bw (bU _)) (pw_and1 (cw EF (cA iG rfl B.len PySem.boot_len (ae (pv 1) ag)) ay (bU _))))) (aB (a8 (dW (ae (aeI (N:=["self","name"]) (idx:=[0]) (k:=1) (px:="name") (P:=PT) rfl (by show A.depth+1+5<_;have h1:A.depth+1+3*1+5<Dk:=Zu;lia) rfl B.min (pv 1) (dN.of (by kernel_rfl)) rfl hC hB rfl rfl qc
     (λ_ _ _ _ _ _=>aT (Mn K) (aT (EI K) (aT (EI K) (amK K (pv 0) rfl) (pv 1)) ay) ay) λ_ _ _ _ _ _=>rfl) ag)))) cU)
   (aB (a8 (pv 1)))),?_⟩
  refine iV (id T.obj) λdx fs ea e1 e2 e3 em el=>?_;have hl:=T.len;refine vF rfl ea cT.cl cT.rP e3 ⟨q,⟨_,rfl,av.of T.qs,?_⟩⟩;refine iW (n:=12) (λi ys H'=>af H H'/\ys=(vt es i).map V.int) qc ⟨af.refl _,rfl⟩ ?_ ?_ ?_ ?_ ?_
  ·rintro i ys H' ⟨_,rfl⟩;rw[aX];exact Rv es i
  ·rintro i ys H' hi ⟨sm,_⟩;exact eW _ (V.ref (qr[i]'wg)) (av.of (sm _ _ T.qs)) (by rw[fw,bb wg];rfl)
  ·rintro ys H' ⟨sm,_⟩;exact ar _ (av.of (sm _ _ T.qs)) (by rw[aX,hl];exact aF _)
  ·rintro i ys H' hi ⟨sm,rfl⟩ y fb ⟨p,x,hp,ey,eH,hx⟩;subst ey;subst eH;have eN:=hx _ (av.of (sm _ _ T.qs));rw[fw,bb wg]at eN;cases eN;refine ah (T.jC i _ (bb wg)) λvs eb rb=>?_;have s2:af H (upd H' p (.tup [.int i,.ref qr[i]])):=aH sm hp;have lv:=Paired.length rb;refine⟨p,⟨_,rfl,aE.of au,rfl,_,_,rfl,_,_,rfl,rfl,?_⟩⟩;refine vr rfl ⟨_,⟨_,rfl,.inl (av.of (s2 _ _ eb)),_,_,rfl,rfl,_,rfl,cx (λz=>?_) λz=>?_⟩⟩
   ·refine vr rfl ⟨s2,?_⟩;rw[Q0,if_pos (λy=>by rw[y]at lv;rw[lv]at z;exact absurd z (by simp)),km];rfl
   ·refine⟨s2,?_⟩;rw[Q0,if_neg λy=>y (sW.mp li),sY]
  ·rintro ys H' ⟨sm,rfl⟩;have wl:=Rv es 12;refine⟨by rw[aX];exact cO (c9 w4),λl1 Ae=>?_⟩;have s1:af H (upd H' l1 (.lst ((vt es 12).map V.int))):=aH sm Ae;generalize yz:upd H' l1 (.lst ((vt es 12).map V.int))=H1 at s1;have i9:H1 l1=some (.lst ((mf es).map V.int)):=by rw[<-yz];exact au
   have YR:H l1=none:=by
    cases e:H l1 with
    | none=>rfl
    | some o=>rw[sm _ _ e]at Ae;cases Ae
   have uc:=jd sq s1;have T1:c7 H1 a C kd tn es q qr:=T.gm (gF.of s1);refine iV (id T1.obj) λlh gX CS f1 f2 f3 _ _=>?_;have done:(mf es).length<=12:=wl;refine ar _ rfl (cY a C lh gX (⟨_,rfl,CS,cT.cl,cT.kind,f1,rfl,(ar _ rfl ?_)⟩))
   by_cases hk:kd = "row"
   ·rw[decide_eq_true (show V.str kd=V.str "row" by rw[hk])];refine iM (vr rfl ⟨l1,⟨_,rfl,.inl (av.of i9),_,_,rfl,rfl,_,rfl,cx (λz=>?_) λz=>?_⟩⟩)
    ·rw[aX]at z;refine ar _ rfl (jh l1 (mf es) (vW es) rfl (av.of i9) li uc λH2 sp oj=>?_);refine ah (id uc) λps Z0 _=>?_;refine ah (id oj) λF6 Xx _=>?_;have kp:=gF.XS sp Z0 Xx;have T2:c7 H2 a C kd tn es q qr:=T1.gm kp;have mV:=kp.k l1 _ (by simp) (λps z=>by cases z) i9;refine iq (av.of mV) (λm hm=>?_) λm hm hb=>?_
     ·refine aL (AU.mp hm) λi hi aa i8=>?_;subst aa;refine iV (id T2.obj) λkh jH ea2 g1 g2 g3 _ _=>?_;refine ah (T2.jC i _ (bb wg)) λvs eb rb=>?_;cases N5:bV es i with
      | nil=>exact absurd N5 i8
      | cons x r=>
       rw[N5]at rb;cases rb with
       | cons hx wx=>
        refine cG hx λp st aa q1 q2=>?_;clear hx;subst aa;refine vF rfl ea2 cT.cl cT.rP g3 (vr rfl (rL (v:=.ref (qr[i]'wg)) (av.of T2.qs) (?_) (cl1 (v:=.ref p) (j:=0) eb rfl (rT (v:=.int x.t) (aE.of q1) (dG (j:=0) rfl) ⟨?_,rfl⟩))))
        ·exact dG (by rw[fw,bb wg];rfl)
        ·unfold vW;rw[lZ,N5];rfl
     ·refine⟨by show 1<=aP;decide,λl hn=>?_⟩;refine k _ l ((adM s1 sp Z0 Xx).trans (gF.of (aH (af.refl _) hn))) (jd oj (aH (af.refl _) hn)) ?_ ?_
      ·cases e:H l with
       | none=>rfl
       | some o=>
        by_cases zp:l=PT
        ·refine ah oj λps2 h2 _=>?_;rw[zp,h2]at hn;cases hn
        ·rw[sp _ _ zp (s1 _ _ e)]at hn;cases hn
      ·rw[au];unfold ju;rw[if_pos hk,aib T.wf hm hb];rfl
    ·rw[aX]at z;refine vr rfl (k H1 l1 (gF.of s1) uc YR ?_);rw[i9];unfold ju;rw[if_pos hk,aic T.wf li]
   ·rw[decide_eq_false (show ¬V.str kd=V.str "row" from λz=>hk (EX z))];refine fk (fk (vr rfl (k H1 l1 (gF.of s1) uc YR ?_)));rw[i9];unfold ju;rw[if_neg hk]
theorem aiT(n:Int)(ns:List Int):zP (.int n) (ns.map V.int)=decide (n∈ns):=by
 unfold zP
 induction ns with
 | nil=>rfl
 | cons m r ih=>
  rw[iF,yP,ih]
  by_cases h:m=n
  ·subst h;simp[oz]
  ·have:oz (.int m) (.int n)=false:=by simp[oz,h]
   rw[this,Bool.false_or];exact decide_eq_decide.mpr ⟨λz=>dn _ z,λz=>(bq.mp z).resolve_left λy=>h y.symm⟩
theorem ae7(ns:List Int):(ns.map V.int).all tU=true:=by
 rw[AJ];exact yI.mpr λ_ _=>rfl
theorem IZ{kd:Str}{tn:Int}{es:List Ent}{n:Int}(w:mG tn es)(h:n∈ju kd es):∃i:Nat,i<12/\n=i/\∃e r,bV es i=e::r:=by
 have hw:n∈mf es:=by
  unfold ju at h
  by_cases hk:kd = "row"
  ·rw[if_pos hk]at h;cases es with
   | nil=>cases h
   | cons e r=>
    have e1:n=e.n:=by simpa using h
    rw[e1];exact Ik w rfl
  ·rw[if_neg hk]at h;exact h
 refine aL (AU.mp hw) λi hi e i8=>?_;refine c8 i hi e ?_;cases q:bV es i with
 | nil=>exact absurd q i8
 | cons x r=>exact⟨x,r,rfl⟩
def UO(C PT jR:Addr):Sp:=λvs H Q E=>∃a n kd tn es q qr,vs=[.ref a,.int n]/\c7 H a C kd tn es q qr/\cJ PT LP LQ H/\
 (n∈ju kd es->∀H' e st,(bV es n.toNat).head?=some e->c7 H' a C kd tn (lN es n) q qr->gF (a::q::qr) H H'->cJ PT LP LQ H'->H' st=some (.tup [.int e.n,.int e.num,.int e.d])->Q (.ref st) H')/\
 (n∉ju kd es->∀H',gF [] H H'->cJ PT LP LQ H'->E (.ref jR) none H')
theorem ah1:bg ["self","name"] ["self","name"] (aQ KY):=bu
theorem agk{f fW fF C PT c jR:Addr}{fd kU pX:aV}(F:aW K "take" "Tray.take" KY f fd)(B:BT mg)(cT:lC K C)(hC:W.CodeHd base c PT)(hB:ub mg base)
  (FW:aW K "is_whole" "is_whole" Kd fW kU) (bW:Binds K kU ["thing"] []) (mW:mg "is_whole" = some (.ref fW)) (FF:vI K "fronts" "Tray.fronts" DI fF pX c) (bF:Binds K pX ["self"] []) (mF:Meth K C "fronts" fF)
  (xc:XC K jR) (mM:mg "NoMove" = some (.ref jR)):aw P w K mg base (dg P w) 3 f fd ["self","name"] (UO C PT jR):=by
 have GW:aw P w K mg base az 1 fW kU ["thing"] So:=aeL FW B;have GF:aw P w K mg base az 2 fF pX ["self"] (Jo C PT):=Q9 FF B cT hC hB;refine F.xM ah1 (λvs H Q E h=>?_) λaI A outer s H vs Q E hr hL hp h=>?_
 ·obtain⟨a,n,kd,tn,es,q,qr,aa,_⟩:=h;subst aa;rfl
 ·obtain⟨a,n,kd,tn,es,q,qr,aa,T,sq,bc⟩:=h;subst aa;obtain⟨k1,k2⟩:=bc
  refine⟨_,ax (cF (PW.pt (pw_or (nk (iX (dF GW (hr.mono qc) rfl mW FW.kp bW .nil aS (ae (pv 1) ag))))
    (pw_or1 (cw QE (pv 1) (jr (pv 0) cT.cl mF GF hr bF .nil aS) rfl)))) (aB (A8 rfl hL xc rfl mM (ae bw ag))) cU)
   (aB (a8 (aT du (mh PySem.F.plainAttrs_list PySem.F.slot_list_pop PySem.F.type_list_pop agD (aT cI (a6 (pv 0) rfl) (pv 1)) (ae ay ag)) ay))),?_⟩
  refine iV (id T.obj) λdx fs ea e1 e2 e3 em el=>?_;refine vr rfl (dv (.int n) ("int") rfl rfl (ar _ rfl ?_));refine fk (vr rfl (vM rfl ea (em "fronts" dk) (⟨a,kd,tn,es,q,qr,rfl,T,sq,(λH1 l kp uc hn hl=>?_)⟩)));refine⟨l,⟨_,rfl,.inl (av.of hl),rfl,ae7 _,_,rfl,?_⟩⟩;rw[if_pos rfl,aiT];refine By (λz=>?_) λz=>?_
  ·exact⟨qc,k2 (of_decide_eq_false z) H1 kp uc⟩
  ·have iD:=of_decide_eq_true z;have T1:=T.gm kp;refine aL (IZ T.wf iD) λi hi aa bc=>?_;subst aa;refine xO bc λe r he=>?_;refine iV (id T1.obj) λlh gX CS f1 f2 f3 fm fl=>?_;have aqx:=T1.len;have hb:qr[i]?=some (qr[i]'wg):=bb wg;refine ah (T1.jC i _ hb) λvs eb rb=>?_;have wC:=cQ hb;generalize qr[i]'wg=b at hb eb wC;rw[he]at rb;cases rb with
   | cons hx wx=>
    refine cG hx λp st aa q1 q2=>?_;clear hx;subst aa
    rename_i oB
    refine ar _ rfl (cY a C lh gX (g9 _ rfl CS cT.cl cT.rP f3 (vr rfl (rL (v:=.ref b) (av.of T1.qs) (dG (by rw[fw,hb];rfl)) ⟨.inl ⟨rfl,_,av.of eb⟩,?_⟩))));refine⟨b,_,0,0,(.ref p),rfl,rfl,eb,qc,qc,(by simp[Ji]),rfl,?_⟩;have npb:p≠b:=gj q1 eb (by intro z;cases z);have nsb:st≠b:=gj q2 eb (by intro z;cases z);refine rT (v:=.ref st) (aE.of (by rw[aj npb];exact q1)) (dG (j:=1) rfl) ?_
    have ka:EO (a::q::qr) H1 (upd H1 b (.lst oB)):=λc o hc ec=>by
     rw[aj λz=>hc (by simp[z,wC])];exact ec
    have kt:∀c xs,H1 c=some (.tup xs)->upd H1 b (.lst oB) c=some (.tup xs):=λc xs ec=>by rw[aj (gj ec eb (by intro z;cases z))];exact ec
    have Cd:a≠b:=gj CS eb (by intro z;cases z);have N8:q≠b:=λz=>T1.nq (z ▸ wC)
    refine k1 iD _ e st (by rw[lZ,he];rfl) ⟨⟨lh,gX,by rw[aj Cd];exact CS,f1,f2,f3,fm,fl⟩,by rw[aj N8];exact T1.qs,T1.len,T1.nd,T1.nq,λj c hc=>?_,ahN T1.wf _⟩
     ⟨λc o hc ht ec=>ka c o hc (kp.k c o (by simp) ht ec),λc h=>kp.t c (by
      by_cases z:c=b
      ·rw[z,au]at h;cases h
      ·rwa[aj z]at h)⟩ (AM uc ka T1.kinds) (by rw[aj nsb];exact q2)
    rw[af6]
    by_cases zj:j=i
    ·subst zj;rw[hb]at hc;cases hc;rw[if_pos rfl,he];exact ar oB au (rJ (λ_ _ y=>y.keep (F:=[]) kt) wx)
    ·rw[if_neg λy=>zj (by have:(i:Int)=(j:Int):=y;lia)]
     have Ob:c≠b:=λy=>zj (by
      subst y;refine oE (eJ.mp hc) λp1 q1=>?_;refine oE (eJ.mp hb) λp2 q2=>?_;rcases HE j i with y | y | y
      ·exact absurd (q1.trans q2.symm) (oQ.mp T1.nd j i p1 p2 y)
      ·exact y
      ·exact absurd (q2.trans q1.symm) (oQ.mp T1.nd i j p2 p1 y))
     exact(T1.jC j c hc).keep (λo e=>by rw[aj Ob];exact e) kt
def Jm(C PT se:Addr):Sp:=λvs H Q E=>∃v T,vs=[v]/\tyName H v=some T/\
 ((v=.str "row"\/v=.str "name"\/v=.str "none")->∀kd H' x q qr,v=.str kd->c7 H' x C kd 0 [] q qr->EO [] H H'->(∀b∈x::q::qr,H b=none)->Q (.ref x) H')/\
 (¬(v=.str "row"\/v=.str "name"\/v=.str "none")->E (.ref se) none H)
theorem af1:bg ["kind"] ["kind"] (aQ Ke):=bu
theorem Uk{H:Hp}{v:V}{T:String}(h:tyName H v=some T):qA T "str" = true↔∃x,v=.str x:=by
 constructor
 ·intro z;cases v with
  | str x=>exact⟨x,rfl⟩
  | aJ=>cases h;cases z
  | bl b=>cases h;cases z
  | int i=>cases h;cases z
  | ref a=>
   unfold tyName at h;cases e:H a with
   | none=>simp only[e]at h;cases h
   | some o=>
    cases o with
    | lst xs=>simp only[e]at h;cases h;cases z
    | tup xs=>simp only[e]at h;cases h;cases z
    | _=>simp only[e]at h;cases h
  | _=>cases h
 ·rintro⟨x,rfl⟩;cases h;rfl
theorem RX{e:Ent}{f:Nat->List Ent}:∀n:Nat,((∃k:Nat,k<n/\e.n=(k:Int))->A6 ((List.range n).flatMap λ(i:Nat)=>if e.n=(i:Int) then e::f i else f i) (e::(List.range n).flatMap f))/\
  ((¬∃k:Nat,k<n/\e.n=(k:Int))->((List.range n).flatMap λ(i:Nat)=>if e.n=(i:Int) then e::f i else f i)=(List.range n).flatMap f)
 | 0=>⟨λ⟨k,hk,_⟩=>absurd hk (Nat.not_lt_zero _),λ_=>rfl⟩
 | n+1=>by
  refine oA (RX (e:=e) (f:=f) n) λi1 i2=>?_;have eF:∀g:Nat->List Ent,(List.range (n+1)).flatMap g=(List.range n).flatMap g++g n:=λg=>by rw[yK,C9];simp
  rw[eF,eF];constructor
  ·rintro⟨k,hk,ek⟩
   by_cases h:e.n=(n:Int)
   ·have kY:¬∃k:Nat,k<n/\e.n=(k:Int):=λ⟨j,hj,ej⟩=>li;rw[i2 kY,if_pos h];exact List.perm_middle
   ·rw[if_neg h];exact(i1 ⟨k,li,ek⟩).append_right _
  ·intro kY;rw[i2 λ⟨j,hj,ej⟩=>kY ⟨j,li,ej⟩,if_neg λh=>kY ⟨n,w1,h⟩]
theorem QT:∀{es:List Ent},(∀e∈es,0<=e.n/\e.n<12)->A6 ((List.range 12).flatMap (bV es)) es
 | [],_=>by
  have:(List.range 12).flatMap (bV [])=[]:=List.flatMap_eq_nil_iff.mpr λi _=>rfl;rw[this]
 | e::r,h=>by
  have hf:(bV (e::r))=λi=>if e.n=((i:Nat):Int) then e::bV r i else bV r i:=by
   funext i
   unfold bV;rw[uO]
   by_cases z:e.n=(i:Int)
   ·simp only[decide_eq_true z,if_true,if_pos z]
   ·simp only[decide_eq_false z,wI,if_false,if_neg z]
  refine oA (h e dE) λh0 h1=>?_;rw[hf];exact((RX (e:=e) (f:=bV r) 12).1 ⟨e.n.toNat,li,xm⟩).trans ((QT λx hx=>h x (dn _ hx)).cons e)
theorem QV{H:Hp}(qv:Nat->List V)(ql:Nat->List Ent):∀n:Nat,(∀i:Nat,i<n->Paired (jQ H) (qv i) (ql i))->Paired (jQ H) ((List.range n).flatMap qv) ((List.range n).flatMap ql)
 | 0,_=>.nil
 | n+1,h=>by
  have eF:∀{α:Type} (g:Nat->List α),(List.range (n+1)).flatMap g=(List.range n).flatMap g++g n:=λg=>by rw[yK,C9];simp
  rw[eF,eF];exact paired_cat (QV qv ql n λi hi=>h i li) (h n (AA n))
where
 paired_cat {H:Hp}:∀{l l':List V} {r r':List Ent},Paired (jQ H) l r->Paired (jQ H) l' r'->Paired (jQ H) (l++l') (r++r')
 | _,_,_,_,.nil,h=>h
 | _,_,_,_,.cons g t,h=>.cons g (paired_cat t h)
theorem RJ{α β:Type}{F:α->β->Prop}:∀{l:List α} {r:List β},l.length=r.length->(∀(i:Nat) a b,l[i]?=some a->r[i]?=some b->F a b)->Paired F l r
 | [],[],_,_=>.nil
 | [],_::_,h,_=>by cases h
 | _::_,[],h,_=>by cases h
 | a::l,b::r,h,k=>.cons (k 0 a b rfl rfl) (RJ (by simpa using h) λi x y hx hy=>k (i+1) x y (by simpa using hx) (by simpa using hy))
theorem ID{H:Hp}:∀{l:List V} {r:List Ent},Paired (jQ H) l r->∀q∈(l.zip r).map λz=>(z.2.t,z.1),∃e∈r,q.1=e.t/\jQ H q.2 e
 | _,_,.nil,q,h=>by cases h
 | _,_,.cons (a:=v) (b:=e) g t,q,h=>by
  rw[aaS,iF]at h;rcases bq.mp h with z | z
  ·rw[z];exact c8 e dE rfl g
  ·refine ah (ID t q z) λe' h1 h2=>?_;exact ar e' (dn _ h1) h2
theorem zip_parts{H:Hp}:∀{l:List V} {r:List Ent},Paired (jQ H) l r->((l.zip r).map λz=>(z.2.t,z.1)).map (·.2)=l/\((l.zip r).map λz=>(z.2.t,z.1)).map (·.1)=r.map (·.t)
 | _,_,.nil=>⟨rfl,rfl⟩
 | _,_,.cons g t=>by
  refine oA (zip_parts t) λh1 h2=>?_;rw[aaS,iF,iF,iF,h1,h2];exact⟨rfl,rfl⟩
theorem ada{H:Hp}{tn:Int}{es:List Ent}{vs:List V}{qs:List (Int×V)}{L:List Ent}(w:mG tn es)(hL:A6 L es)(r:Paired (jQ H) vs L)(hp:A6 qs ((vs.zip L).map λz=>(z.2.t,z.1)))(ha:qs.Pairwise λa b=>a.1<b.1):Paired (jQ H) (qs.map (·.2)) es:=by
 have e1:qs.map (·.1)=es.map (·.t):=by
  refine W.ksm_same ?_ (Qc.mpr (ha.imp λh=>Int.le_of_lt h)) (Qc.mpr (w.asc.imp λh=>Int.le_of_lt h));have:=hp.map (·.1);rw[(zip_parts r).2]at this;exact this.trans (hL.map _)
 have hl:qs.length=es.length:=by have:=congrArg List.length e1;simpa using this
 refine RJ (by rw[aX,hl]) λi v e hv he=>?_;rw[fw]at hv;refine ah (Ht.mp hv) λq hq aa=>?_;subst aa;refine aL (ID r q (hp.mem_iff.mp (cQ hq))) λe' he' ht hE=>?_
 have ht2:q.1=e.t:=by
  have:(qs.map (·.1))[i]?=some q.1:=by rw[fw,hq];rfl
  rw[e1,fw,he]at this;exact(iz this).symm
 have he2:e'∈es:=hL.mem_iff.mp he'
 have:e'=e:=by
  refine oE (uH he2) λj aa=>?_;refine oE aa λhj ej=>?_;refine oE (eJ.mp he) λhi ei=>?_;have tt:es[j].t=es[i].t:=by rw[ej,ei,<-ht,ht2]
  rcases HE j i with z | z | z
  ·have:=oQ.mp w.asc j i hj hi z;lia
  ·subst z;rw[<-ej,<-ei]
  ·have:=oQ.mp w.asc i j hi hj z;lia
 rw[<-this];exact hE
theorem adi{tn:Int}{es L:List Ent}(w:mG tn es)(hL:A6 L es):(L.map (·.t)).Nodup:=by
 refine(hL.map (·.t)).nodup_iff.mpr ?_;exact Qc.mpr (w.asc.imp λh=>Int.ne_of_lt h)
theorem aeP{f fI C se aK:Addr}{fd dY:aV}(F:aW K "tray_of" "tray_of" Ke f fd)(B:BT mg)(cT:lC K C)(M:Mk K C fI)(FI:aW K "__init__" "Tray.__init__" BW fI dY)(bI:Binds K dY ["self","kind"] [])(mT:mg "Tray" = some (.ref C))(mN:∃u,mg "NAMES" = some u/\RelV (.int 12) u)
  (mK:mg "KINDS" = some (.ref aK)) (hK:∀H:Hp,aE K H aK [.str "row",.str "name",.str "none"]) (xc:XC K se) (mX:mg "NoKind" = some (.ref se)) {PT:Addr}:aw P w K mg base (dg P w) 3 f fd ["kind"] (Jm C PT se):=by
 have GI:aw P w K mg base az 1 fI dY ["self","kind"] (ML C):=VM FI B cT mN;refine F.xM af1 (λvs H Q E h=>?_) λaI A outer s H vs Q E hr hL hp h=>?_
 ·refine a9 h λv T aa _=>?_;clear h;subst aa;rfl
 ·refine nW h λv T aa ht k1 k2=>?_;clear h;subst aa;refine⟨_,ax (cF (PW.pt (pw_or (nk (iX (cA jK rfl B.jU jc (ae (pv 0) (ae (pf (v:=.ty "str") rfl B.str boot_str rfl) ag))))) (pw_or1 (cw QE (pv 0) (fV (v:=.ref aK) rfl mK rfl) rfl)))) (aB (A8 rfl hL xc rfl mX (ae bw ag))) cU) (aB (a8 (qg M GI hr rfl mT bI .nil aS (ae (pv 0) ag)))),?_⟩;refine vr rfl (cY _ _ _ _ (gD _ rfl (nF ht) rfl (nz ht qc) (ar _ rfl ?_)));refine By (λz=>?_) λz=>?_
  ·refine iM ⟨qc,k2 λy=>?_⟩;have:∃x,v=.str x:=by rcases y with y | y | y <;> exact⟨_,y⟩
   rw[(Uk ht).mpr this]at z;cases z
  ·refine oE ((Uk ht).mp z) λx aa=>?_;subst aa;refine vr rfl ⟨aK,⟨_,rfl,.inr (hK H),rfl,rfl,_,rfl,?_⟩⟩;rw[if_pos rfl]
   have ei:zP (.str x) [.str "row",.str "name",.str "none"]=decide (V.str x=.str "row"\/V.str x=.str "name"\/V.str x=.str "none"):=by
    unfold zP
    have g:∀y:Str,oz (.str y) (.str x)=decide (V.str x=V.str y):=λy=>by
     simp only[oz]
     by_cases q:x=y
     ·subst q;simp
     ·have:¬V.str x=V.str y:=λe=>q (EX e);rw[decide_eq_false this];exact beq_eq_false_iff_ne.mpr λe=>q e.symm
    simp only[yP,List.any_nil,g,Bool.or_false]
    by_cases q1:V.str x=.str "row" <;> by_cases q2:V.str x=.str "name" <;> by_cases q3:V.str x=.str "none" <;> simp[q1,q2,q3]
   rw[ei];refine By (λy=>?_) λy=>?_
   ·exact⟨qc,k2 (of_decide_eq_false y)⟩
   ·refine vr rfl λo dx no gc ne=>?_;refine⟨o,dx,x,rfl,au,(λH' q qr T1 kp fr=>⟨rfl,k1 (of_decide_eq_true y) x H' o q qr rfl T1 (λb u _ e=>kp b u (ba e no) ?_) λb hb=>?_⟩)⟩
    ·rw[aj (ba e no),aj (ba e gc)];exact e
    ·rcases bq.mp hb with z | z
     ·rw[z];exact no
     ·have:=fr b z;have nbo:b≠o:=λe=>by rw[e,au]at this;cases this
      rw[aj nbo]at this;have nbd:b≠dx:=λe=>by rw[e,au]at this;cases this
      rw[aj nbd]at this;exact this
theorem Tf{α:Type}{qv:Nat->List α}{m:Nat}:∀n:Nat,(∀i,i<n->(qv i).length<=m)->((List.range n).flatMap qv).length<=n*m
 | 0,_=>by simp
 | n+1,h=>by
  rw[yK,C9,cX];have h1:=Tf n λi hi=>h i li;have h2:=h n (AA n);simp only[Qd,abh,sY];rw[QO];lia
theorem AK{α β:Type}{F:α->β->Prop}:∀{l:List α} {r:List β} {i:Nat} {x:α},Paired F l r->l[i]?=some x->∃y,r[i]?=some y/\F x y
 | _,_,_,_,.nil,e=>by simp at e
 | _,_,0,_,.cons h _,e=>by simp at e;subst e;exact⟨_,rfl,h⟩
 | _,_,i+1,x,.cons _ t,e=>by
  refine ah (AK (i:=i) t (by simpa using e)) λy h1 h2=>?_;exact ar y (by simpa using h1) h2
theorem aoi(x y z:V):jT [x,y,z] none (some 2)=[x,y]:=rfl
def vq(H:Hp)(v:V)(e:Ent):Prop:=∃p,v=.ref p/\H p=some (.tup [.int e.n,.int e.num])
def Su(C:Addr):Sp:=λvs H Q _=>∃a kd tn es q qr,vs=[.ref a]/\c7 H a C kd tn es q qr/\es.length<64/\
 ∀H' l us,af H H'->H l=none->H' l=some (.lst us)->Paired (vq H') us es->Q (.ref l) H'
theorem IV:bg ["self","waiting","queue"] ["self"] (aQ Ju):=bu
theorem VO:(["turn","setting"]:List Str).Nodup:=dk
theorem adS{f C:Addr}{fd:aV}(F:aW K "listed" "Tray.listed" Ju f fd)(B:BT mg)(cT:lC K C):aw P w K mg base az 1 f fd ["self"] (Su C):=by
 refine F.ok IV (λvs H Q E h=>?_) λaI A _ s H vs Q E hr h=>?_
 ·refine ni h λa kd tn es q qr aa _=>?_;subst aa;rfl
 ·obtain⟨a,kd,tn,es,q,qr,aa,T,hz,k⟩:=h;subst aa
  refine⟨_,ax (bZ (i:=1) IV.nd rfl (aR rfl) (dW ag)) (ax (rQ uP rfl (qf (a6 (pv 0) rfl)) (de (i:=2) IV.nd rfl (aR rfl)) (aB (dQ (mh PySem.F.plainAttrs_list PySem.F.slot_list_extend PySem.F.type_list_extend RM (pv 1) (ae (pv 2) ag))))) (aB (a8 (ji (N:=["turn","setting"]) (idx:=[]) rfl (dN.of (by kernel_rfl)) (IG (bX _) (bX _)) (qf (cA ac8 rfl B.sorted boot_sorted (ae (pv 1) ag)))
    (λ_ _ _ _=>zk rfl (pe (de (i:=0) VO rfl (aR rfl) (.inr rfl)) (pe (de (i:=1) VO rfl (aR rfl) (.inr rfl)) za)))
    (λ_ _ _ _=>jt) λ_ _ _ _=>uZ (amf K) (pv 1) vg (vf ay))))),?_⟩
  refine iV (id T.obj) λdx fs ea e1 e2 e3 em el=>?_;have hl:=T.len
  obtain⟨qv,OM⟩:∃qv:Nat->List V,∀i (hi:i<qr.length),H qr[i]=some (.lst (qv i))/\Paired (jQ H) (qv i) (bV es i):=by
   refine⟨λi=>match H (qr.getD i 0)with | some (.lst vs)=>vs | _=>[],λi hi=>?_⟩;refine ah (T.jC i _ (bb hi)) λvs h1 h2=>?_;have eg:qr.getD i 0=qr[i]:=by simp[hi]
   dsimp only;rw[eg,h1];exact⟨rfl,h2⟩
  refine⟨qc,λlw nw=>?_⟩;have s0:af H (upd H lw (.lst [])):=aH (af.refl _) nw;have naw:a≠lw:=ba ea nw;have nqw:q≠lw:=ba T.qs nw;refine ar _ rfl (cY a C dx fs (g9 _ rfl (by rw[aj naw];exact ea) cT.cl cT.rP e3 ⟨q,rfl,⟨_,av.of (by rw[aj nqw];exact T.qs)⟩,?_⟩));refine Tc (xs:=qr.map V.ref) (λi σ H'=>∃qx,σ=[some (.ref a),some (.ref lw),qx]/\af H H'/\H' lw=some (.lst ((List.range i).flatMap qv))) ⟨none,rfl,s0,by rw[au];rfl⟩ ?_ ?_ ?_
  ·rintro i σ H' _ ⟨qx,rfl,sm,_⟩;exact av.of (sm _ _ T.qs)
  ·rintro i x σ H' hx ⟨qx,rfl,sm,hw⟩;rw[fw]at hx;refine ah (Ht.mp hx) λb hb aa=>?_;subst aa;refine oE (eJ.mp hb) λhi eb=>?_;refine oA (OM i hi) λh1 h2=>?_;rw[eb]at h1;have lq:=Paired.length h2;have lq2:=Ks es i
   have fl:=Tf (qv:=qv) (m:=64) i λj hj=>by
    have:=Paired.length (OM j li).2;have:=Ks es j;lia
   refine vr rfl ⟨.inl ⟨rfl,_,av.of hw⟩,⟨_,rfl,lw,b,_,_,rfl,rfl,hw,sm _ _ h1,?_,⟨_,rfl,λc o e=>?_,?_⟩⟩⟩
   ·rw[lu];lia
   ·rw[aj (ba e nw)];exact sm _ _ e
   ·rw[au,yK,C9];simp
  ·rintro σ H' ⟨qx,rfl,sm,hw⟩;rw[aX,hl]at hw;have rp:Paired (jQ H) ((List.range 12).flatMap qv) ((List.range 12).flatMap (bV es)):=QV qv (bV es) 12 λi hi=>(OM i wg).2;have hL:=QT T.wf.nm;have ll:((List.range 12).flatMap (bV es)).length=es.length:=hL.length_eq;have lr:=Paired.length rp;refine oA (zip_parts rp) λz1 z2=>?_;have Yo:Paired (jQ H') ((List.range 12).flatMap qv) ((List.range 12).flatMap (bV es)):=rJ (λ_ _ y=>y.keep (F:=[]) λb xs e=>sm _ _ e) rp;refine vr rfl (⟨lw,((((List.range 12).flatMap qv).zip ((List.range 12).flatMap (bV es))).map λz=>(z.2.t,z.1)),rfl,(av.of (by rw[z1];exact hw)),(by rw[aX,List.length_zip];omega),(λy hy=>?_),(by rw[z2];exact adi T.wf hL),(λls qs hn hp ha=>?_)⟩)
   ·refine aL (ID Yo y hy) λe _ et aa=>?_;refine cG aa λp st ep h1 h2=>?_;exact eW p ([.ref st]) ep (aE.of (by rw[et];exact h1))
   ·have rs:=ada T.wf hL Yo hp ha;have s1:af H' (upd H' ls (.lst (qs.map (·.2)))):=aH (af.refl _) hn;generalize yz:upd H' ls (.lst (qs.map (·.2)))=H1 at s1;have gR:H1 ls=some (.lst (qs.map (·.2))):=by rw[<-yz];exact au
    have lqs:(qs.map (·.2)).length=es.length:=Paired.length rs;refine c8 ls rfl ⟨_,av.of gR⟩ ?_;generalize hW:qs.map (·.2)=us at gR rs lqs;refine iW (n:=es.length) (λi ys H2=>af H1 H2/\Paired (vq H2) ys (es.take i)) (by rw[lu];exact w5) ⟨af.refl _,by rw[List.take_zero];exact .nil⟩ ?_ ?_ ?_ ?_ ?_
    ·rintro i ys H2 ⟨_,r2⟩;rw[Paired.length r2,ff];exact xl
    ·rintro i ys H2 hi ⟨s2,_⟩;exact eW us (us[i]'wg) (av.of (s2 _ _ gR)) (bb wg)
    ·rintro ys H2 ⟨s2,_⟩;exact ar us (av.of (s2 _ _ gR)) li
    ·rintro i ys H2 hi ⟨s2,r2⟩ y H3 ⟨eH,hy⟩;subst eH;have ur:=hy us (av.of (s2 _ _ gR));refine ah (AK rs ur) λe he aa=>?_;refine cG aa λp st aa h1 h2=>?_;subst aa;have g1:=s2 _ _ (s1 _ _ h1);have g2:=s2 _ _ (s1 _ _ h2);refine⟨p,⟨_,rfl,aE.of g1,rfl,_,_,rfl,_,_,rfl,rfl,?_⟩⟩;dsimp only[jS];rw[if_pos rfl];refine vr rfl (ar 2 rfl ⟨st,⟨_,rfl,aE.of g2,by show ¬(HT.bf 3 0 none=0/\HT.bf 3 3 (some 2)=3);decide,λr i7=>?_⟩⟩);have s3:af H3 (upd H3 r (.tup (jT [.int e.n,.int e.num,.int e.d] none (some 2)))):=aH (af.refl _) i7;refine⟨s2.trans s3,?_⟩;rw[lj,he];exact IE (rJ (λ_ _ ⟨p,q1,q2⟩=>⟨p,q1,s3 _ _ q2⟩) r2) (ar r rfl (by rw[au,aoi]))
    ·rintro ys H2 ⟨s2,r2⟩;rw[HJ]at r2;have ly:=Paired.length r2;refine⟨by rw[lu];lia,λlr nr=>?_⟩;have s3:af H2 (upd H2 lr (.lst ys)):=aH (af.refl _) nr;refine k _ lr ys (sm.trans (s1.trans (s2.trans s3))) ?_ au (rJ (λ_ _ ⟨p,q1,q2⟩=>⟨p,q1,s3 _ _ q2⟩) r2);cases e:H lr with
     | none=>rfl
     | some o=>rw[s2 _ _ (s1 _ _ (sm _ _ e))]at nr;cases nr
end TL
namespace TL
open PySem PySem.Spec PyProof.Rows PySem.SeqAt L2 L3
theorem Mj{X:Cx}(K:W.Frag)(h:X.K=K:=by rfl):mi X (.type "list") (λxs H Q=>∃p ys,xs=[.ref p]/\(av K H p ys\/aE K H p ys)/\∀l,H l=none->Q (.ref l) (upd H l (.lst ys))):=by subst h;exact rA
theorem RH{H0 H:Hp}{r:Addr}{o:HO}(s:af H0 H)(h:H0 r=none):af H0 (upd H r o):=λb u e=>by
 rw[aj (ba e h)];exact s b u e
theorem tu{f:Str}{v u:V}:∀{fs:List (Str×V)},fs.lookup f=some u->(aD f v fs).length=fs.length
 | [],h=>by cases h
 | (k,x)::r,h=>by
  rw[show aD f v ((k,x)::r)=(if k=f then (k,v)::r else (k,x)::aD f v r) from rfl]
  by_cases hk:k=f
  ·rw[if_pos hk];rfl
  ·rw[if_neg hk,fG,fG];rw[pZ,show (f == k)=false from beq_eq_false_iff_ne.mpr λz=>hk z.symm]at h;rw[tu h]
theorem Uh{x:Str}{v:V}{fs:List (Str×V)}:(aD x v fs).lookup x=some v:=by rw[eP,if_pos rfl]
theorem zd{x y:Str}{v:V}{r:Option V}{fs:List (Str×V)}(h:fs.lookup y=r)(n:y≠x):(aD x v fs).lookup y=r:=by rw[eP,if_neg n];exact h
section
variable{P:Program}{w:World}{K:W.Frag}{mg:Str->Option Value}{base:Heap}
def Tv(C:Addr):Sp:=λvs H Q _=>∃a kd tn es q qr,vs=[.ref a]/\c7 H a C kd tn es q qr/\∀H' x q' YB,c7 H' x C kd tn es q' YB->af H H'->(∀b∈x::q'::YB,H b=none)->Q (.ref x) H'
theorem TR:bg ["self","other"] ["self"] (aQ KW):=bu
theorem agj{f fI C:Addr}{fd dY:aV}(F:aW K "twin" "Tray.twin" KW f fd)(B:BT mg)(gR:mg "list" = none)(cT:lC K C)(M:Mk K C fI)(FI:aW K "__init__" "Tray.__init__" BW fI dY)(bI:Binds K dY ["self","kind"] [])(mT:mg "Tray" = some (.ref C))(mN:∃u,mg "NAMES" = some u/\RelV (.int 12) u):aw P w K mg base az 3 f fd ["self"] (Tv C):=by
 have GI:aw P w K mg base az 1 fI dY ["self","kind"] (ML C):=VM FI B cT mN;refine F.ok TR (λvs H Q E h=>?_) λaI A _ s H vs Q E hr h=>?_
 ·refine ni h λa kd tn es q qr aa _=>?_;subst aa;rfl
 ·obtain⟨a,kd,tn,es,q,qr,aa,T,k⟩:=h;subst aa
  refine⟨_,ax (bZ (i:=1) TR.nd rfl (aR rfl) (qg M GI hr rfl mT bI .nil aS (ae (a6 (pv 0) rfl) ag))) (ax (dr (pv 1) (a6 (pv 0) rfl) rfl) (ax (dr (pv 1) (ji (N:=["queue"]) (idx:=[]) rfl (dN.of (by kernel_rfl)) (je (bX _)) (qf (a6 (pv 0) rfl)) (λ_ _ _ _=>de (i:=0) SQ rfl (aR rfl) (.inr rfl)) (λ_ _ _ _=>jt) λ_ _ _ _=>jg (Mj K) rfl gR o7 (ae (pv 0) ag)) rfl)
   (aB (a8 (pv 1))))),?_⟩
  refine iV T.obj λdx fs ha hk ht hq hms Xs=>?_;refine vF rfl ha cT.cl cT.kind hk λx lh nx gc ne=>⟨x,lh,kd,rfl,au,λH1 q1 qr1 T1 kp fr=>⟨rfl,?_⟩⟩;have s1:af H H1:=λb o e=>kp b o (ba e nx) (by rw[aj (ba e nx),aj (ba e gc)];exact e);refine iV T1.obj λkh gX eN k1 t1 qq1 ms1 aqB=>?_;have nax:a≠x:=ba ha nx;refine ar _ rfl (cY a C dx fs (g9 _ rfl (s1 _ _ ha) cT.cl cT.turn ht (vr rfl (iU x C kh gX rfl eN cT.cl cT.turn wb ?_))));have s2:af H (upd H1 x (.ins C kh (aD "turn" (.int tn) gX))):=RH s1 nx;have lG:upd H1 x (.ins C kh (aD "turn" (.int tn) gX)) x=some (.ins C kh (aD "turn" (.int tn) gX)):=au;have aqA:=tu (v:=.int tn) t1;generalize upd H1 x (.ins C kh (aD "turn" (.int tn) gX))=H2 at s2 lG ⊢;have hlen:=T.len;have Gr:=s2 _ _ T.qs;refine ar _ rfl (cY a C dx fs (g9 _ rfl (s2 _ _ ha) cT.cl cT.rP hq (c8 q rfl ⟨_,av.of Gr⟩ ?_)));refine iW (n:=qr.length) (λi ys H'=>i<=qr.length/\∃rs:List Addr,ys=rs.map V.ref/\rs.length=i/\af H2 H'/\(∀(j:Nat) b,rs[j]?=some b->B0 H' b (bV es j))/\rs.Nodup/\∀b∈rs,H2 b=none/\H' b≠none) ?_ ?_ ?_ ?_ ?_ ?_ ?_
  ·exact cO (c9 w6)
  ·exact⟨bX _,⟨[],rfl,rfl,af.refl _,λj b z=>(by simp at z),List.nodup_nil,λb z=>by cases z⟩⟩
  ·rintro i ys H' ⟨_,rs,rfl,rfl,_⟩;rw[aX];exact aF _
  ·rintro i ys H' hi ⟨_,rs,_,_,s3,_⟩;exact eW _ _ (av.of (s3 _ _ Gr)) (bb (by rw[aX];exact hi))
  ·rintro ys H' ⟨_,rs,_,_,s3,_⟩;exact ar _ (av.of (s3 _ _ Gr)) (by rw[aX];exact aF _)
  ·rintro i ys H' hi ⟨_,rs,rfl,rfl,s3,oH,nd,gf⟩ z fb ⟨eH,da⟩;subst eH;have hz:=da _ (av.of (s3 _ _ Gr));rw[fw,bb hi]at hz;have wq:z=V.ref qr[rs.length]:=(iz hz).symm;subst wq;refine ah (T.jC rs.length _ (bb hi)) λvs OG hv2=>?_;dsimp only[jS,ij];rw[if_pos rfl];have x6:=s2.trans s3;refine vr rfl (dv (qr[rs.length]) vs rfl (.inl (av.of (x6 _ _ OG))) λl nl=>?_);have s4:=aH (o:=.lst vs) (af.refl fb) nl;have kt:∀b xs,H b=some (.tup xs)->upd fb l (.lst vs) b=some (.tup xs):=λb xs e=>s4 _ _ (x6 _ _ e);refine⟨hi,⟨rs++[l],by rw[km];rfl,by rw[cX];rfl,s3.trans s4,λj b hb=>?_,?_,λb hb=>?_⟩⟩
   ·by_cases hj:j<rs.length
    ·rw[Aw hj]at hb;refine ah (oH j b hb) λus h1 h2=>?_;exact ar us (s4 _ _ h1) (rJ (λ_ _ z=>z.keep (F:=[]) λb xs e=>s4 _ _ e) h2)
    ·have ej:j=rs.length:=by
      have:=(eJ.mp hb).1;rw[cX]at this;simp at this;lia
     subst ej;rw[Au (aF _),Nat.sub_self]at hb;have eb:l=b:=iz hb;subst eb;exact ar vs au (rJ (λ_ _ z=>z.keep (F:=[]) kt) hv2)
   ·rw[aa5];refine iq nd (by simp) λb hb c hc e=>?_;rw[gz.mp hc]at e;rw[e]at hb;exact(gf l hb).2 nl
   ·rcases jo.mp hb with h | h
    ·refine oA (gf b h) λh1 h2=>?_;refine⟨h1,λz=>h2 (s4.free z)⟩
    ·rw[gz.mp h];refine⟨s3.free nl,λz=>?_⟩;rw[au]at z;cases z
  rintro ys H3 ⟨_,rs,rfl,jD,s3,oH,nd,gf⟩;refine⟨by rw[aX];exact cO (c9 li),λlq N9=>?_⟩;have s4:=aH (o:=.lst (rs.map V.ref)) (af.refl H3) N9;have ZE:upd H3 lq (.lst (rs.map V.ref)) lq=some (.lst (rs.map V.ref)):=au;have Ni:H2 lq=none:=s3.free N9;have vU:lq∉rs:=λz=>(gf lq z).2 N9;generalize upd H3 lq (.lst (rs.map V.ref))=H4 at s4 ZE ⊢;have Yj:=s3.trans s4;have wt:=Yj _ _ lG;refine vr rfl (⟨x,C,kh,(g9 _ rfl wt cT.cl cT.rP wd ?_)⟩);have nlx:lq≠x:=λz=>by rw[z,lG]at Ni;cases Ni
  have nrx:∀b∈rs,b≠x:=λb hb z=>by have h:=(gf b hb).1;rw[z,lG]at h;cases h
  have aqz:=tu (v:=.ref lq) (zd (x:="turn") (v:=.int tn) qq1 dk)
  have Gb:∀b xs,H4 b=some (.tup xs)->upd H4 x (.ins C kh (aD "queues" (.ref lq) (aD "turn" (.int tn) gX))) b=some (.tup xs):=λb xs e=>by
   rw[aj (λz=>by rw[z,wt]at e;cases e)];exact e
  refine vr rfl (k _ x lq rs ⟨⟨kh,_,au,zd (zd k1 dk) dk,zd Uh dk,Uh,λm hm=>?_,wu⟩,?_,wo,nd,vU,λi b hb=>?_,T.wf⟩ ?_ λb hb=>?_)
  ·have h1:m ≠ "queues":=λz=>by subst z;exact absurd hm dk
   have h2:m ≠ "turn":=λz=>by subst z;exact absurd hm dk
   exact zd (zd (ms1 m hm) h2) h1
  ·rw[aj nlx];exact ZE
  ·refine ah (oH i b hb) λus h1 h2=>?_;refine ar us ?_ (rJ (λ_ _ z=>z.keep (F:=[]) λb xs e=>Gb _ _ (s4 _ _ e)) h2);rw[aj (nrx b (cQ hb))];exact s4 _ _ h1
  ·exact RH (s2.trans Yj) nx
  ·rcases bq.mp hb with z | z
   ·rw[z];exact nx
   ·rcases bq.mp z with z | z
    ·rw[z];exact s2.free Ni
    ·exact s2.free (gf b z).1
end
end TL
namespace L4
open PySem PySem.Builtin PySem.Builtin.Str
def aog(n:Nat):List Nat:=(Nat.toDigits 10 n).map Char.toNat
def an9(n:Nat):Str:=⟨(aog n).toArray⟩
abbrev Tl:=Str×List Nat
inductive di (sz:Nat):Tl->Prop
 | put (r m:Nat):r<4->m<10^60->di sz ("put",[r,m])
 | add (r o:Nat):r<4->o<4->di sz ("add",[r,o])
 | set (n r:Nat):n<12->r<4->di sz ("set",[n,r])
 | look (r n:Nat):r<4->n<12->di sz ("look",[r,n])
 | swap (r n:Nat):r<4->n<12->di sz ("swap",[r,n])
 | clear:di sz ("clear",[])
 | skip (r q:Nat):r<4->q<=sz->q<=120->di sz ("skip",[r,q])
theorem JZ:(121:Nat)<=10^60:=dk
theorem di.len{sz:Nat}{t:Tl}(g:di sz t):t.2.length<=2:=by cases g <;> simp
def Ec:List Str:=["put","add","set","look","swap","clear","skip"]
theorem di.word{sz:Nat}{t:Tl}(g:di sz t):t.1∈Ec:=by
 cases g <;> (unfold Ec;simp only[bq,true_or,or_true])
def Ew(t:Tl):List Str:=t.1::t.2.map an9
theorem aeq{sz:Nat}{t:Tl}(g:di sz t):(Ew t).length<=3:=by
 unfold Ew;rw[fG,aX];have:=g.len;lia
abbrev Pt:=List Tl
structure qu(ps:List Pt):Prop where
 ne:1<=ps.length
 le:ps.length<=4
 part:∀p∈ps,p.length<=120/\∀t∈p,di p.length t
theorem di.mono{a b:Nat}{t:Tl}(g:di a t)(h:a<=b):di b t:=by
 cases g with
 | put r m h1 h2=>exact .put r m h1 h2
 | add r m h1 h2=>exact .add r m h1 h2
 | set r m h1 h2=>exact .set r m h1 h2
 | look r m h1 h2=>exact .look r m h1 h2
 | swap r m h1 h2=>exact .swap r m h1 h2
 | clear=>exact .clear
 | skip r q h1 h2 h3=>exact .skip r q h1 (cu h2 h) h3
end L4
namespace L2
open PySem PySem.Spec PyProof.Rows
section
variable{X:Cx}
end
section
variable{X:Cx}{CX:nI}{k:Nat}{E:XK}{m:Str}{pos apos:Pos}{e o:Expr}{es:List Expr}{ta:TE}{t:TA}
end
end L2
namespace TL
open PySem PySem.Spec PyProof.Rows PySem.SeqAt L2 L3
section
variable{P:Program}{w:World}{K:W.Frag}{mg:Str->Option Value}{base:Heap}
theorem aey{H:Hp}{v:V}(h:kD H v=true):∃a x ps,v=.ref a/\H a=some (.tup (.str x::ps))/\stepOk (.str x::ps)=true:=by
 unfold kD at h;cases e:cq H v with
 | none=>rw[e]at h;cases h
 | some xs=>
  rw[e]at h;refine ah (yY e) λa aa ha=>?_;subst aa
  match xs,h,ha with
  | .str x::ps,h,ha=>exact⟨a,x,ps,rfl,ha,h⟩
def Ka(t:aZ)(cN:Addr):Sp:=λvs H Q E=>∃v T,vs=[v]/\tyName H v=some T/\(∀xs,cq H v=some xs->xs.length<=1000/\∀x∈xs,∃T,tyName H x=some T)/\
 (∀a x ps,v=.ref a->H a=some (.tup (.str x::ps))->stepOk (.str x::ps)=true->∀z dx H',af H H'->H z=none->H' z=some (.ins (cZ t x) dx (eM (.ref a) x ps))->Q (.ref z) H')/\
 (kD H v=false->∀H',af H H'->E (.ref cN) none H')
theorem SM{t:aZ}{cN:Addr}(T:qk K mg t)(xc:XC K cN)(mX:mg "NoStep" = some (.ref cN)):aw P w K mg base (dg P w) 4 t.fO t.ue ["told"] (Ka t cN):=by
 have GS:aw P w K mg base az 2 t.fS t.ou ["told"] Sw:=aeN T.XW T.bl T.cn T.NS T.bW T.mW T.fnB T.bB T.mB;have GI:aw P w K mg base az 1 t.fI t.dY ["self","told"] (vn K):=wZ T.init.fn T.init.tup;have apG:aw P w K mg base az 2 t.MZ t.EL ["self","told"] (pI t.lP "reg" "number"):=aiu T.amI T.init T.vy T.amw T.VV T.VT;have apP:aw P w K mg base az 2 t.M0 t.EM ["self","told"] (pI t.lQ "reg" "other"):=aiC T.amJ T.init T.tV T.amx T.Mi T.VU;have apF:aw P w K mg base az 2 t.MY t.EK ["self","told"] (pI t.kI "name" "reg"):=ait T.amH T.init T.r6 T.amv T.EH T.VS;have anH:aw P w K mg base az 2 t.Ms t.Es ["self","told"] (pI t.lB "reg" "name"):=agr T.ak' T.init T.rV T.akK T.U4 T.Em;have anF:aw P w K mg base az 2 t.Mq t.Ep ["self","told"] (pI t.lA "reg" "name"):=agl T.ak7 T.init T.qj T.akI T.Lq T.El;have anG:aw P w K mg base az 2 t.Mr t.Er ["self","told"] (pI t.gq "reg" "place"):=agm T.ak9 T.init T.tQ T.akJ T.U3 T.Lp;refine T.NT.xM SE (λvs H Q E h=>?_) λaI A outer s H vs Q E hr hL hp h=>?_
 ·refine a9 h λv T aa _=>?_;clear h;subst aa;rfl
 ·obtain⟨v0,Ty,aa,hTy,OF,k',kx⟩:=h;subst aa
  refine⟨_,(ax (cF (nk (iX (dF GS (hr.mono qc) rfl T.mS T.XW.kp T.bS .nil aS (ae (pv 0) ag)))) (aB (A8 rfl hL xc rfl mX (ae bw ag))) cU)
   (ax (bZ (i:=1) SE.nd rfl (aR rfl) (aT du (pv 0) ay)) (ax (cF (cw eC (pv 1) bw (bU _)) (aB (a8 (qg T.amy apG hr rfl T.VX T.amR .nil aS (ae (pv 0) ag)))) cU) (ax (cF (cw eC (pv 1) bw (bU _)) (aB (a8 (qg T.mkAdd apP hr rfl T.VY T.amS .nil aS (ae (pv 0) ag)))) cU) (ax (cF (cw eC (pv 1) bw (bU _)) (aB (a8 (qg T.mkSet apF hr rfl T.VW T.amQ .nil aS (ae (pv 0) ag)))) cU) (ax (cF (cw eC (pv 1) bw (bU _)) (aB (a8 (qg T.akO anH hr rfl T.U6 T.aly .nil aS (ae (pv 0) ag)))) cU) (ax (cF (cw eC (pv 1) bw (bU _)) (aB (a8 (qg T.akM anF hr rfl T.U5 T.alw .nil aS (ae (pv 0) ag)))) cU) (ax (cF (cw eC (pv 1) bw (bU _)) (aB (a8 (qg T.aiM GI (hr.mono qc) rfl T.aiN T.init.bi .nil aS (ae (pv 0) ag)))) cU)
   (aB (a8 (qg T.akN anG hr rfl T.Ls T.alx .nil aS (ae (pv 0) ag)))))))))))),?_⟩
  refine vr rfl (qi v0 Ty rfl hTy OF λH1 hS=>?_);refine ar _ rfl ?_;cases cR:kD H v0 with
  | false=>exact iM ⟨by show 1<=aP;decide,kx cR H1 hS⟩
  | true=>
  refine fk ?_;refine kA (aey cR) λa x0 ps aa ha hk=>?_;subst aa;have k:=k' a x0 ps rfl ha hk;have nn:∀{y:Str},¬V.str x0=V.str y->¬x0=y:=λh e=>h (by rw[e]);refine vT (v:=.str x0) rfl (aE.of (hS _ _ ha)) (dG (j:=0) rfl) ?_;refine ar _ rfl ⟨rfl,⟨_,rfl,cx (λe=>?_) λn1=>?_⟩⟩
  ·cases str_inj e;obtain⟨v1,v2,mU⟩:=xo hk (bs:=[4,mm]) (by unfold cD;rw[if_pos rfl]);subst mU;refine vr rfl λx dx nx gc zZ=>⟨x,dx,a,[.str "put",v1,v2],v1,v2,rfl,au,?_,rfl,rfl,rfl,?_⟩
   ·rw[aj (ba (hS _ _ ha) nx),aj (ba (hS _ _ ha) gc)];exact hS _ _ ha
   ·refine k x dx _ (λb o q=>?_) (hS.free nx) (by rw[au];rfl);rw[aj (ba (hS b o q) nx),aj (ba (hS b o q) nx),aj (ba (hS b o q) gc)];exact hS b o q
  refine ar _ rfl ⟨rfl,⟨_,rfl,cx (λe=>?_) λn2=>?_⟩⟩
  ·cases str_inj e;obtain⟨v1,v2,mU⟩:=xo hk (bs:=[4,4]) (by unfold cD;rw[if_neg dk,if_pos rfl]);subst mU;refine vr rfl λx dx nx gc zZ=>⟨x,dx,a,[.str "add",v1,v2],v1,v2,rfl,au,?_,rfl,rfl,rfl,?_⟩
   ·rw[aj (ba (hS _ _ ha) nx),aj (ba (hS _ _ ha) gc)];exact hS _ _ ha
   ·refine k x dx _ (λb o q=>?_) (hS.free nx) (by rw[au];rfl);rw[aj (ba (hS b o q) nx),aj (ba (hS b o q) nx),aj (ba (hS b o q) gc)];exact hS b o q
  refine ar _ rfl ⟨rfl,⟨_,rfl,cx (λe=>?_) λn3=>?_⟩⟩
  ·cases str_inj e;obtain⟨v1,v2,mU⟩:=xo hk (bs:=[12,4]) (by unfold cD;rw[if_neg dk,if_neg dk,if_pos rfl]);subst mU;refine vr rfl λx dx nx gc zZ=>⟨x,dx,a,[.str "set",v1,v2],v1,v2,rfl,au,?_,rfl,rfl,rfl,?_⟩
   ·rw[aj (ba (hS _ _ ha) nx),aj (ba (hS _ _ ha) gc)];exact hS _ _ ha
   ·refine k x dx _ (λb o q=>?_) (hS.free nx) (by rw[au];rfl);rw[aj (ba (hS b o q) nx),aj (ba (hS b o q) nx),aj (ba (hS b o q) gc)];exact hS b o q
  refine ar _ rfl ⟨rfl,⟨_,rfl,cx (λe=>?_) λn4=>?_⟩⟩
  ·cases str_inj e;obtain⟨v1,v2,mU⟩:=xo hk (bs:=[4,12]) (by unfold cD;rw[if_neg dk,if_neg dk,if_neg dk,if_pos rfl]);subst mU;refine vr rfl λx dx nx gc zZ=>⟨x,dx,a,[.str "look",v1,v2],v1,v2,rfl,au,?_,rfl,rfl,rfl,?_⟩
   ·rw[aj (ba (hS _ _ ha) nx),aj (ba (hS _ _ ha) gc)];exact hS _ _ ha
   ·refine k x dx _ (λb o q=>?_) (hS.free nx) (by rw[au];rfl);rw[aj (ba (hS b o q) nx),aj (ba (hS b o q) nx),aj (ba (hS b o q) gc)];exact hS b o q
  refine ar _ rfl ⟨rfl,⟨_,rfl,cx (λe=>?_) λn5=>?_⟩⟩
  ·cases str_inj e;obtain⟨v1,v2,mU⟩:=xo hk (bs:=[4,12]) (by unfold cD;rw[if_neg dk,if_neg dk,if_neg dk,if_neg dk,if_pos rfl]);subst mU;refine vr rfl λx dx nx gc zZ=>⟨x,dx,a,[.str "swap",v1,v2],v1,v2,rfl,au,?_,rfl,rfl,rfl,?_⟩
   ·rw[aj (ba (hS _ _ ha) nx),aj (ba (hS _ _ ha) gc)];exact hS _ _ ha
   ·refine k x dx _ (λb o q=>?_) (hS.free nx) (by rw[au];rfl);rw[aj (ba (hS b o q) nx),aj (ba (hS b o q) nx),aj (ba (hS b o q) gc)];exact hS b o q
  refine ar _ rfl ⟨rfl,⟨_,rfl,cx (λe=>?_) λn6=>?_⟩⟩
  ·cases str_inj e;refine vr rfl λx dx nx gc zZ=>⟨x,t.rW,dx,[],a,.str "clear" :: ps,rfl,au,T.ze,T.aiI,qc,?_,rfl,?_⟩
   ·rw[aj (ba (hS _ _ ha) nx),aj (ba (hS _ _ ha) gc)];exact hS _ _ ha
   ·refine k x dx _ (λb o q=>?_) (hS.free nx) (by rw[au];rfl);rw[aj (ba (hS b o q) nx),aj (ba (hS b o q) nx),aj (ba (hS b o q) gc)];exact hS b o q
  have anq:x0 = "skip":=RS hk (nn n1) (nn n2) (nn n3) (nn n4) (nn n5) (nn n6);subst anq;obtain⟨v1,v2,mU⟩:=xo hk (bs:=[4,121]) (by unfold cD;rw[if_neg dk,if_neg dk,if_neg dk,if_neg dk,if_neg dk,if_neg dk,if_pos rfl]);subst mU;refine vr rfl λx dx nx gc zZ=>⟨x,dx,a,[.str "skip",v1,v2],v1,v2,rfl,au,?_,rfl,rfl,rfl,?_⟩
  ·rw[aj (ba (hS _ _ ha) nx),aj (ba (hS _ _ ha) gc)];exact hS _ _ ha
  ·refine k x dx _ (λb o q=>?_) (hS.free nx) (by rw[au];rfl);rw[aj (ba (hS b o q) nx),aj (ba (hS b o q) nx),aj (ba (hS b o q) gc)];exact hS b o q
end
end TL
namespace L2
open PySem PySem.Spec PyProof.Rows
theorem agW:plainId i3=true:=dk
theorem aiW:builtinKind i3=some Manifest.AttrKind.slot:=by kernel_rfl
theorem agV:splitId i3=some ("BaseException","__getattribute__"):=by kernel_rfl
theorem aiY(a b:Value):argsOk i3 { pos:=[a,b] }:=by kernel_rfl
theorem aiX(self:Value):bindSpecial (.builtin i3) self=pure (.builtin i3,[self]):=by kernel_rfl
theorem agX:entryFor table i3=some Builtin.«object.__getattribute__»:=by kernel_rfl
end L2
namespace L2
open PySem PySem.Spec PyProof.Rows L3
section
variable{prog:Program}{w:World}{A:Around}{E:Value->Shared->Prop}{s:Shared}{K:W.Frag}{x C:Addr}{ox:Obj}{od:Option Obj}{name:Str}{tk:Tok}
theorem Um{fill expr:Bool}{Q:Value->Shared->Prop}(X:K.In s.heap)(I:W.InstAt s.heap x ox C od)(OX:W.findIn K (.ref C) (dZ "__getattribute__")=some (some (.builtin i3)))(OU:W.findIn K (.ref C) (dZ "__getattr__")=some none)
  (qX:W.mroIn K C (.type "BaseException")=some true)
  (h:wpAny (model prog w) A.in1 (Builtin.«object.__getattribute__» { pos:=[.ref x,.str name tk] }) (λfin s'=>∃v,fin=Bc (Flow.ret v)/\wpAny (model prog w) A (handedOut v) Q E s') (λ_ _=>False) s) :
  wpAny (model prog w) A (getAttrBy (.ref x) (.str name tk) fill expr) Q E s:=by
 have L0:=W.InstAt.type (M:=model prog w) I;have L1:=W.looks_findIn (M:=model prog w) X OX;have L2:=W.looks_findIn (M:=model prog w) X OU;unfold getAttrBy;refine ng (aq (L0.here (aq (L1.here ?_))));show wpAny (model prog w) A (if (onTheHeap (.ref C)&&(yO i3 == yO "object.__getattribute__"))=true then _ else getAttrByItsOwn (.ref x) (.str name tk) (.ref C) (.builtin i3) fill expr) Q E s
 have e1:(onTheHeap (.ref C)&&(yO i3 == yO "object.__getattribute__"))=false:=by
  show (true&&(yO i3 == yO "object.__getattribute__"))=false;decide +kernel
 rw[e1,if_neg dh];unfold getAttrByItsOwn;refine aq (L2.here ?_);refine aq (Dm (ng ?_))
 have ec:callGetattribute (.ref x) (.str name tk) (.builtin i3) expr=boundAndCalled (.builtin i3) (.ref x) (.str name tk):=by
  unfold callGetattribute;rw[if_neg (by cases expr <;> decide)]
 rw[ec];unfold boundAndCalled;rw[aiX];refine aq (aN ?_);show wpAny (model prog w) A (call (.builtin i3) [.ref x,.str name tk]) _ _ s;have sub:W.Looks (model prog w) s.heap (AO (.ref x) (.type "BaseException")) true:=W.Looks.andThen (W.InstAt.type I) (W.looks_mroIn X qX);have h5:=aiY (.ref x) (.str name tk);refine rE ?_;refine P5 agW agX ?_;refine iA (@W.check_slot (model prog w) A.in1 (λ_ _=>False) s i3 "BaseException" "__getattribute__" (.ref x) [.str name tk] [] (λ_ s₁=>s₁=s) aiW agV sub h5 rfl) (λ_ s1 e=>?_) λ_ _ z=>gA z;subst e;refine iA h (λfin s' z=>?_) λ_ _ z=>gA z;obtain⟨v,e,z⟩:=z;subst e;exact z
theorem Uo{Q:Value->Shared->Prop}{r:Hr}(X:K.In s.heap)(I:W.InstAt s.heap x ox C od)(hf:W.findObj K C od name=some r)
  (h:wpAny (model prog w) A (match r with
    | ap6 v=>ret v
    | ap7 g a=>PU g a (.ref x) (.ref C)
    | ap5=>unsupported "no") (λfin s'=>∃v,fin=Bc (Flow.ret v)/\Q v s') (λ_ _=>False) s) (hr:r≠.missing) :
  wpAny (model prog w) A (Builtin.«object.__getattribute__» { pos:=[.ref x,.str name tk] }) (λfin s'=>∃v,fin=Bc (Flow.ret v)/\Q v s') (λ_ _=>False) s:=by
 have L0:=W.InstAt.type (M:=model prog w) I;have L1:=W.looks_find (M:=model prog w) X I hf;refine aq (aN ?_);refine aq (aN ?_);refine aq (L0.here (aq (L1.here ?_)));cases r with
 | value v=>exact h
 | bind g a=>exact h
 | missing=>exact absurd rfl hr
end
theorem akt:classOwn (oY "ValueError") (dZ "__setattr__")=pure none:=by kernel_rfl
theorem amm:classOwn (oY "Exception") (dZ "__setattr__")=pure none:=by kernel_rfl
theorem aku:classOwn (oY "BaseException") (dZ "__setattr__")=pure none:=by kernel_rfl
theorem QF:∀{l:List Value},rK l=true->∃as:List Addr,l=as.map cb++vE
 | [],h=>by cases h
 | v::r,h=>by
  cases v with
  | ref a=>
   refine oE (QF (l:=r) h) λas e=>?_;exact⟨a::as,by rw[e];rfl⟩
  | type a=>
   have h':(a == "ValueError" && (r == [.type "Exception",.type "BaseException",.type "object"]))=true:=h;rw[fJ]at h';refine⟨[],?_⟩;rw[A3 h'.1,A3 h'.2];rfl
  | _=>cases h
theorem Q5(self:Value):∀as:List Addr,IM self (dZ "__setattr__") (as.map cb++vE)=pure ()
 | []=>by
  have e:=W.refuse_only self (l:=[.type "object"]) rfl;show IM self (dZ "__setattr__") [.type "ValueError",.type "Exception",.type "BaseException",.type "object"]=pure ();unfold IM at e ⊢;simp only[yL,akt,amm,aku,pure_bind,Option.isSome_none,wI,if_false]at e ⊢;exact e
 | a::as=>by
  have e:=Q5 self as;rw[iF,Qk];unfold IM at e ⊢;rw[yL];simp only[pure_bind];exact e
section
variable{prog:Program}{w:World}{A:Around}{K:W.Frag}{C x:Addr}{s:Shared}{ox:Obj}{od:Option Obj}{name:Str}{tk:Tok}{v:Value}
theorem RK{R:Result->Shared->Prop}{cd:Jk}(X:K.In s.heap)(I:W.InstAt s.heap x ox C od)(hc:W.clsIn K C=some cd)(ho:rK cd.mro=true)(ha:W.findIn K (.ref C) name=some none)
  (h:wpAny (model prog w) A.in1 (ap4 (.ref x) (.ref C) (.str name tk) name v false) (λfin s'=>match fin with | Bc f=>R (Sm f) s' | Fin.again c'=>c'.quiet=true/\codeAny (model prog w) A c' R s') (λe s'=>R (Iu e) s') s) :
  codeAny (model prog w) A (Code.call (.builtin "object.__setattr__") { pos:=[.ref x,.str name tk,v] }) R s:=by
 have SF:=F.store_object;refine oE (QF ho) λas em=>?_;have ne:cd.mro.isEmpty=false:=by rw[em];cases as <;> rfl
 have hob:cd.mro.contains (.type "object")=true:=by rw[em,List.contains_eq_mem];exact decide_eq_true (gg _ (by simp))
 have sub:W.Looks (model prog w) s.heap (AO (.ref x) (.type "object")) true:=W.Looks.andThen (W.InstAt.type I) (W.looks_mroIn X (by
  unfold W.mroIn;rw[hc,HH,if_neg (by rw[ne];exact dh),hob]))
 have hm:W.Looks (model prog w) s.heap (mroOf (.ref C)) cd.mro:=W.Looks.andThen (W.looks_clsIn X hc) W.Looks.now;have h1:=SF.slot.plain;have h2:=SF.entry;have h3:=SF.kind;have h4:=SF.split;have h5:=SF.args (.ref x) (.str name tk) v
 have goal:wpAny (model prog w) A.in1 (Builtin.«object.__setattr__» { pos:=[cb x,A5 name tk,v] })
   (λfin s'=>match fin with | Bc f=>R (Sm f) s' | Fin.again c'=>c'.quiet=true/\codeAny (model prog w) A c' R s') (λe s'=>R (Iu e) s') s:=by
  rw[W.osa_eq,refuse_eq];refine aq (aq (W.Looks.here (W.InstAt.type I) (aq (W.Looks.here hm ?_))));rw[em,Q5];exact aN (aq (W.Looks.here (W.InstAt.type I) (aq (W.Looks.here (W.looks_findIn X ha) (aq (aN h))))))
 refine P5 h1 h2 ?_;exact @W.check_slot (model prog w) A.in1 (λe s'=>R (Iu e) s') s "object.__setattr__" "object" "__setattr__" (.ref x) [.str name tk,v] [] (λ_ s₁=>wpAny (model prog w) A.in1 (Builtin.«object.__setattr__» { pos:=[cb x,A5 name tk,v] }) (λfin s'=>match fin with | Bc f=>R (Sm f) s' | Fin.again c'=>c'.quiet=true/\codeAny (model prog w) A c' R s') (λe s'=>R (Iu e) s') s₁) h3 h4 sub h5 goal
theorem afZ{vs:Array Value}{sl:Array (Option Value)}{cd:Jk}{Q:Unit->Shared->Prop}{E:Value->Shared->Prop}(X:K.In s.heap)(hx:s.heap.get? x=some ⟨.ref C,none,.fields vs,sl⟩)
  (hs:W.findIn K (.ref C) "__setattr__" = some (some (.builtin "object.__setattr__"))) (hc:W.clsIn K C=some cd) (ho:rK cd.mro=true) (hd:cd.hasDict=true) (ha:W.findIn K (.ref C) name=some none)
  (h:∀h',h'.get? x=some ⟨.ref C,some s.heap.objs.size,.fields vs,sl⟩->h'.Ns1 s.heap.objs.size (λy=>if y=name then some v else none)->(∀b o,b≠x->s.heap.get? b=some o->h'.get? b=some o)->Q () { s with heap:=h',toks:=s.toks+2 }) :
  wpAny (model prog w) A (setAttr (.ref x) name v) Q E s:=by
 have J:W.InstAt s.heap x ⟨.ref C,none,.fields vs,sl⟩ C none:=⟨hx,rfl,rfl,nS⟩;have nx:x≠s.heap.objs.size:=eO (bJ hx);refine W.set_plain X J hs (RK (s:={ s with toks:=s.toks+1 }) X J hc ho ha ?_);refine aq (aN (aq (aq (HU hx (aq (W.Looks.here (s:={ s with toks:=s.toks+1 }) (W.looks_clsIn X hc) ?_))))));rw[hd];refine aq (wpAny_alloc (aq ?_));have x1:(s.heap.push { cls:=.type "dict",data:=.dict #[] }).get? x=some ⟨.ref C,none,.fields vs,sl⟩:=bo _ hx;refine wpAny_update x1 ?_;refine aN (a:=some s.heap.objs.size) (aq (aN (aq ?_)));have d1:(s.heap.push { cls:=.type "dict",data:=.dict #[] }).get? s.heap.objs.size=some { cls:=.type "dict",data:=.dict #[] }:=gy _ rfl;generalize OT:(s.heap.push { cls:=.type "dict",data:=.dict #[] }).update x (λo=>{ cls:=o.cls,dict:=some s.heap.objs.size,data:=o.data,slots:=o.slots })=h1;have x2:h1.get? x=some ⟨.ref C,some s.heap.objs.size,.fields vs,sl⟩:=by rw[<-OT];exact yF _ x1 rfl
 have d2:h1.get? s.heap.objs.size=some { cls:=.type "dict",data:=.dict #[] }:=by rw[<-OT,qZ _ _ nx];exact d1
 have n2:h1.Ns1 s.heap.objs.size (λ_=>none):=⟨_,_,_,d2,rfl,λe he=>absurd he (by simp),aa6,λ_=>rfl⟩;refine QI (s:={ s with heap:=h1,toks:=s.toks+1 }) n2 λh' wy mQ=>?_;have wi:PySem.Within (λ_:Str=>(none:Option Value)) []:=λg hg=>absurd rfl hg;refine kA (wy.count (PySem.Within.cons name v wi)) λoD esD epD Cq Cy Cz=>?_;refine aq (Qg Cq (by rw[Cy];exact Qh (cu Cz (by show 1<=aP+1;decide))) ?_);refine aN (h _ ((mQ.2 _ nx).trans x2) wy λb o nb e=>?_);have nd:b≠s.heap.objs.size:=eO (bJ e);rw[mQ.2 _ nd];show h1.get? b=some o;rw[<-OT,qZ _ _ (dU nb)];exact bo _ e
theorem afY{vs:Array Value}{sl:Array (Option Value)}{cd:Jk}{dx:Addr}{mA:Str->Option Value}{ns:List Str}{Q:Unit->Shared->Prop}{E:Value->Shared->Prop}(X:K.In s.heap)(hx:s.heap.get? x=some ⟨.ref C,some dx,.fields vs,sl⟩)
  (hn:s.heap.Ns1 dx mA) (hw:PySem.Within mA ns) (fu:ns.length<=aP)
  (hs:W.findIn K (.ref C) "__setattr__" = some (some (.builtin "object.__setattr__"))) (hc:W.clsIn K C=some cd) (ho:rK cd.mro=true) (hd:cd.hasDict=true) (ha:W.findIn K (.ref C) name=some none)
  (h:∀h',h'.Ns1 dx (λy=>if y=name then some v else mA y)->tj dx s.heap h'->Q () { s with heap:=h',toks:=s.toks+2 }) :
  wpAny (model prog w) A (setAttr (.ref x) name v) Q E s:=by
 refine ah (IY hn) λod OP hl=>?_;have J:W.InstAt s.heap x ⟨.ref C,some dx,.fields vs,sl⟩ C (some od):=⟨hx,rfl,rfl,OP⟩;refine W.set_plain X J hs (RK (s:={ s with toks:=s.toks+1 }) X J hc ho ha ?_);refine aq (aN (aq (aq (HU hx (aq (W.Looks.here (s:={ s with toks:=s.toks+1 }) (W.looks_clsIn X hc) ?_))))));rw[hd];refine aN (a:=some dx) (aq (aN (aq ?_)));refine QI (s:={ s with toks:=s.toks+1 }) hn λh' wy mQ=>?_;refine kA (wy.count (PySem.Within.cons name v hw)) λoD esD epD Cq Cy Cz=>?_;refine aq (Qg Cq (by rw[Cy];exact Qh (cu Cz (by rw[fG];lia))) ?_);exact aN (h _ wy mQ)
theorem aiV{vs:Array Value}{sl:Array (Option Value)}{dx:Addr}{mA:Str->Option Value}{expr:Bool}{Q:Value->Shared->Prop}{E:Value->Shared->Prop}(X:K.In s.heap)(hx:s.heap.get? x=some ⟨.ref C,some dx,.fields vs,sl⟩)
  (hn:s.heap.Ns1 dx mA) (OX:W.findIn K (.ref C) (dZ "__getattribute__")=some (some (.builtin i3))) (OU:W.findIn K (.ref C) (dZ "__getattr__")=some none) (qX:W.mroIn K C (.type "BaseException")=some true)
  (hh:W.hasDictIn K C=true) (ha:W.findIn K (.ref C) name=some none) (hv:mA name=some v) (OH:W.handedIn v=true) (h:Q v { s with toks:=s.toks+1 }) :
  wpAny (model prog w) A (getAttr (.ref x) name expr) Q E s:=by
 refine ah (IY hn) λod OP hl=>?_;have J:W.InstAt s.heap x ⟨.ref C,some dx,.fields vs,sl⟩ C (some od):=⟨hx,rfl,rfl,OP⟩;have hf:=W.findObj_own hh ha rfl (show W.lookIn name od=some (some v) by rw[hl,hv]);unfold getAttr;refine aq (wpAny_mkText (Um (s:={ s with toks:=s.toks+1 }) X J OX OU qX (Uo (s:={ s with toks:=s.toks+1 }) (r:=.value v) X J hf (aN ⟨v,rfl,W.handed_on OH h⟩) (by intro z;cases z))))
end
def EN(K:W.Frag)(C:Addr):Prop:=LI K C vE "ValueError.__new__" = true
theorem EN.at{K:W.Frag}{C:Addr}{h:Heap}(x:EN K C)(X:K.In h):∃oi,sE h C oi:=by
 unfold EN LI at x
 split at x
 ·rename_i dd cd sl ho
  split at x
  ·rename_i C' bm k0 k1 k2 k3 n k5 hm hs
   simp only[fJ,beq_iff_eq,aa7]at x;refine oA x λaa aG=>?_;refine oA aa λaa ht=>?_;refine oA aa λaa BU=>?_;refine oA aa λe1 e2=>?_;subst e1 e2;obtain⟨nm,bs,mro,ns,qn,hd,sn,sub,ab,col,del⟩:=cd;dsimp only at hm BU aG;subst hm BU
   have OK:sl=#[k0,k1,k2,k3,some (.builtin "ValueError.__new__"),k5]:=by
    obtain⟨l⟩:=sl;exact congrArg DT hs
   subst OK;exact⟨_,⟨nm,qn,ns,bs,bm,hd,sn,sub,ab,col,dd,k0,k1,k2,k3,k5,_,X _ _ ho,.of_isNs (W.isNs_of_in X aG),rfl,W.tail_of_in X ht⟩⟩
  ·cases x
 ·cases x
section
variable{prog:Program}{w:World}{A:Around}{E:Value->Shared->Prop}{h:Heap}{g:Array GenState}{d:Drawn}{t:Nat}{os:OsState}{C f:Addr}
theorem afw{us:List Value}{Q:Fin->Shared->Prop}{oi:Option Value}(x:sE h C oi)(hz:us.length<=aP)
  (hl:∀h',(∀b o,h.get? b=some o->h'.get? b=some o)->W.Looks (model prog w) h' (Dt (.ref C) "__init__") (some (.ref f)))
  (hb:∀h' self,(∀b o,h.get? b=some o->h'.get? b=some o)->W.Looks (model prog w) h' (bindSpecial (.ref f) self) (.ref f,[self]))
  (hq:wpAny (model prog w) A (call (.ref f) (.ref (h.objs.size+1)::us)) (λv s'=>v=.none/\Q (.done (.ret (.ref (h.objs.size+1)))) s') E ⟨(h.push (BO us)).push (newX C h.objs.size),g,d,t,os⟩) :
  wpAny (model prog w) A (Builtin.«type.__call__» ⟨.ref C::us,[]⟩) Q E ⟨h,g,d,t,os⟩:=by
 refine l0 x λnm q N bs bm vN sn sub ab col aa=>?_;obtain⟨dd,k0,k1,k2,k3,k5,mN,hC,hN,hi,T⟩:=aa;have Fv:=PySem.F.excBase_ValueError
 repeat (first | (with_reducible refine uM hC ?_) | (with_reducible refine wpAny_madeBy_exc hC ?_) | wp_step)
 refine aao (Hy _ Fv.quiet) (wpAny_check_new_subU Fv rfl T hC (codeAny_exc_new_subU Fv rfl Fv T hC ?_ hz));show wpAny _ _ _ _ _ _;have kk:∀b o,h.get? b=some o->((h.push { cls:=.type "tuple",data:=.seq us.toArray }).push { cls:=.ref C,data:=.fields #[.ref h.objs.size,.none,.none,.none,.bool false,.none] }).get? b=some o:=λb o z=>bo _ (bo _ z);have c1:=kk _ _ hC;have ge:((h.push { cls:=.type "tuple",data:=.seq us.toArray }).push { cls:=.ref C,data:=.fields #[.ref h.objs.size,.none,.none,.none,.bool false,.none] }).get? (h.objs.size+1)=some { cls:=.ref C,data:=.fields #[.ref h.objs.size,.none,.none,.none,.bool false,.none] }:=by heap_get
 have cc:(cb C::bm).contains (.ref C)=true:=by simp
 unfold AO
 repeat (first | (with_reducible refine uM ge ?_) | (with_reducible refine P6 c1 ?_;rw[cc]) | wp_step)
 show wpAny _ _ (Dt (.ref C) _) _ _ _;refine(hl _ kk).at ?_;refine ng (aq ((hb _ _ kk).at (aq (iA hq (λv s' z=>?_) λ_ _ y=>y))));obtain⟨e,z⟩:=z;subst e;exact aN (aN z)
theorem afx{us:List Value}{Q:Value->Shared->Prop}{oi:Option Value}(x:sE h C oi)(hz:us.length<=aP)
  (hl:∀h',(∀b o,h.get? b=some o->h'.get? b=some o)->W.Looks (model prog w) h' (Dt (.ref C) "__init__") (some (.ref f)))
  (hb:∀h' self,(∀b o,h.get? b=some o->h'.get? b=some o)->W.Looks (model prog w) h' (bindSpecial (.ref f) self) (.ref f,[self]))
  (hq:wpAny (model prog w) (A.under (Code.builtin "type.__call__" ⟨.ref C::us,[]⟩)) (call (.ref f) (.ref (h.objs.size+1)::us)) (λv s'=>v=.none/\Q (.ref (h.objs.size+1)) s') E ⟨(h.push (BO us)).push (newX C h.objs.size),g,d,t,os⟩) :
  wpAny (model prog w) A (call (.ref C) us) Q E ⟨h,g,d,t,os⟩:=by
 refine l0 (id x) λnm q N bs bm vN sn sub ab col aa=>?_;obtain⟨dd,k0,k1,k2,k3,k5,mN,hC,r⟩:=aa;have f1:=tc_lookup;have f2:=tc_bind (.ref C);have hT:(⟨h,g,d,t,os⟩:Shared).TypeIs (.ref C) "type":=⟨_,hC,rfl⟩;refine rE (codeAny_of_tree ?_);show wpAny _ _ (callAny (.ref C) _) _ _ _
 repeat (any_goals (first | assumption | (with_reducible refine uM hC ?_) | wp_step))
 exact⟨rfl,aau (Hy _ dk) entry_typeCall (aam hC (afw x hz hl hb hq))⟩
end
def nD(d:Addr)(fs:List (Str×V)):HO:=.ext λh=>fs.length<=1000/\∃mA,h.Ns1 d mA/\(∀f,lR (fs.lookup f) (mA f))/\PySem.Within mA (fs.map (·.1))
theorem UI{P:Program}{w:World}{H:Hp}{h:Heap}{d:Addr}{fs:List (Str×V)}{mA:Str->Option Value}(l:fs.length<=1000)(n:h.Ns1 d mA)(r:∀f,lR (fs.lookup f) (mA f))(wi:PySem.Within mA (fs.map (·.1))):gE P w H h d (nD d fs):=by
 refine iq ⟨l,mA,n,r,wi⟩ ?_ λh1 h2 ⟨l,m,n,r⟩ k=>⟨l,m,?_,r⟩
 ·refine eV n λo _ _ e _=>?_;exact⟨o,e⟩
 ·refine eV n λo es ep e c=>?_;exact⟨o,es,ep,(k _ e),c⟩
def lU(ea:Addr)(c:Value)(dd:Option Addr)(vs:Array Value):HO:=.ext λh=>∃o,h.get? ea=some o/\o.cls=c/\o.dict=dd/\o.data=.fields vs
theorem Vf{P:Program}{w:World}{H:Hp}{h:Heap}{ea:Addr}{c:Value}{dd:Option Addr}{vs:Array Value}{sl:Array (Option Value)}(e:h.get? ea=some ⟨c,dd,.fields vs,sl⟩):gE P w H h ea (lU ea c dd vs):=
 ⟨⟨_,e,rfl,rfl,rfl⟩,⟨_,e⟩,λ_ _ ⟨o,e,r⟩ k=>⟨o,k o e,r⟩⟩
def del(H:Hp)(a:Addr):Hp:=λb=>if b=a then none else H b
theorem ahC{H:Hp}{a:Addr}:del H a a=none:=by unfold del;rw[if_pos rfl]
theorem xt{H:Hp}{a b:Addr}(h:b≠a):del H a b=H b:=by unfold del;rw[if_neg h]
theorem ahB{H:Hp}{a b:Addr}{o:HO}(h:del H a b=some o):b≠a/\H b=some o:=by
 unfold del at h
 split at h
 ·cases h
 ·rename_i n;exact⟨n,h⟩
theorem DL{H:Hp}{a b:Addr}(h:H b=none):del H a b=none:=by
 unfold del
 split
 ·rfl
 ·exact h
theorem Inv.del{X:Cx}{p_:List (Addr×Obj)}{σ:St}{H:Hp}{s:Shared}{a:Addr}{φ:Heap->Prop}(I:Inv X p_ σ H s)(e:H a=some (.ext φ)):Inv X p_ σ (del H a) s:=by
 refine⟨I.ok,I.os,I.bare,⟨I.base.keep,I.base.slot,λb o q n hx=>DL (I.base.free b o q n hx),I.base.there,λb xs q=>?_,λb o u q=>?_,λb ps q=>?_⟩,I.loc,I.cell,DL I.free,λx c q=>DL (I.jy x c q),λp hp=>?_,λb u q=>?_,I.len⟩
 ·have z:=I.base.og b xs q;rw[xt (gj z e (by intro y;cases y))];exact z
 ·have z:=I.base.nA b o u q;rw[xt (gj z e (by intro y;cases y))];exact z
 ·refine oE (I.base.nv b ps q) λm z=>?_;exact⟨m,by rw[xt (gj z e (by intro y;cases y))];exact z⟩
 ·refine gH (I.pin p hp) λz1 z2 z3=>?_;exact iq z1 (DL z2) z3
 ·refine oA (ahB q) λnb q=>?_;refine(I.aG b u q).pG (λ_ _ _ z=>z) (λc z=>?_) λc xs z=>?_
  ·rw[xt (gj z e (by intro y;cases y))];exact z
  ·rw[xt (gj z e (by intro y;cases y))];exact z
structure XF(K:PySem.W.Frag)(C:Addr):Prop where
 sa:W.findIn K (.ref C) "__setattr__" = some (some (.builtin "object.__setattr__"))
 cd:∃cd,W.clsIn K C=some cd/\rK cd.mro=true/\cd.hasDict=true
 ga:W.findIn K (.ref C) (dZ "__getattribute__")=some (some (.builtin i3))
 gt:W.findIn K (.ref C) (dZ "__getattr__")=some none
 be:W.mroIn K C (.type "BaseException")=some true
theorem XF.hd{K:PySem.W.Frag}{C:Addr}(x:XF K C):PySem.W.hasDictIn K C=true:=by
 refine aL x.cd λcd h1 _ h2=>?_;unfold PySem.W.hasDictIn;rw[h1];exact h2
section
variable{X:Cx}{p_:List (Addr×Obj)}{σ:St}{H:Hp}{s:Shared}{a C d:Addr}{fs:List (Str×V)}{f:Str}{v:V}{A:Around}{E:Value->Shared->Prop}
theorem LH{P:Program}{w:World}{h:Heap}{c:Value}{dd:Option Addr}{vs:Array Value}(ok:eX P w H h)(e:H a=some (lU a c dd vs)):∃sl,h.get? a=some ⟨c,dd,.fields vs,sl⟩:=by
 refine oA (ok a _ e) λaa _=>?_;refine gi aa λo q hc hd hv=>?_;obtain⟨c',d',dt,sl⟩:=o;dsimp only at hc hd hv;subst hc hd hv;exact⟨sl,q⟩
theorem Vg{P:Program}{w:World}{h:Heap}{c:Value}{dd:Option Addr}(ok:eX P w H h)(e:H a=some (pL a c dd)):∃vs sl,h.get? a=some ⟨c,dd,.fields vs,sl⟩:=by
 refine oA (ok a _ e) λaa _=>?_;refine nW aa λo vs q hc hd hv=>?_;obtain⟨c',d',dt,sl⟩:=o;dsimp only at hc hd hv;subst hc hd hv;exact sv vs sl q
theorem KO{P:Program}{w:World}{h:Heap}(ok:eX P w H h)(e:H d=some (nD d fs)):fs.length<=1000/\∃mA,h.Ns1 d mA/\(∀f,lR (fs.lookup f) (mA f))/\PySem.Within mA (fs.map (·.1)):=(ok d _ e).1
theorem aiU{b:Bool}{Q:Value->Shared->Prop}(I:Inv X p_ σ H s)(e:H a=some (pL a (.ref C) (some d)))(ed:H d=some (nD d fs))(c:XF X.K C)(n:bj X.K C f)(l:fs.lookup f=some v)
  (h:∀u s',Inv X p_ σ H s'->RelV v u->Q u s'):wpAny (model X.prog X.w) A (getAttr (.ref a) f b) Q E s:=by
 refine xO (Vg I.aG e) λvs sl hx=>?_;refine oA (KO I.aG ed) λ_ aa=>?_;refine aL aa λmA hn r _=>?_;obtain⟨u,hu,ru⟩:=lR.some_of (v:=v) (o:=mA f) (by rw[<-l];exact r f);exact aiV I.cH hx hn c.ga c.gt c.be c.hd n hu (RU ru) (h u _ (I.tok _) ru)
theorem afX{y:V}{u:Value}{Q:Unit->Shared->Prop}(I:Inv X p_ σ H s){vs:Array Value}(e:H a=some (lU a (.ref C) none vs))(c:XF X.K C)(n:bj X.K C f)(ry:RelV y u)
  (h:∀d s',H d=none->Inv X p_ σ (upd (upd H a (lU a (.ref C) (some d) vs)) d (nD d [(f,y)])) s'->Q () s'):wpAny (model X.prog X.w) A (setAttr (.ref a) f u) Q E s:=by
 refine oE (LH I.aG e) λsl hx=>?_;refine aL c.cd λcd h1 h2 h3=>?_;refine afZ I.cH hx c.sa h1 h2 h3 n λh' x' n' k=>h s.heap.objs.size _ (I.aG.fresh (aF _)) ?_
 have I1:Inv X p_ σ (upd H a (lU a (.ref C) (some s.heap.objs.size) vs)) { s with heap:=h',toks:=s.toks+2 }:=
  I.write (x:=a) (e:=a) (by rw[e];exact nS) (.inl rfl) (λb q hb z=>k b q hb z) ⟨_,x'⟩ (Vf x')
 have hn:upd H a (lU a (.ref C) (some s.heap.objs.size) vs) s.heap.objs.size=none:=by
  rw[aj (tf (bJ hx))];exact I.aG.fresh (aF _)
 have fp:cV X p_ (upd H a (lU a (.ref C) (some s.heap.objs.size) vs)) s.heap.objs.size:=I.fo (aF _) hn;refine I1.adopt hn I.sz fp.2.1 fp.2.2.2.2.1 fp.2.2.2.2.2 (UI (by show 1<=1000;decide) n' (λg=>?_) λg hg=>?_)
 ·show lR (([(f,y)]:List (Str×V)).lookup g) (if g=f then some u else none)
  by_cases q:g=f
  ·rw[if_pos q,q,yE];exact ry
  ·rw[if_neg q,pZ,beq_eq_false_iff_ne.mpr q];exact nS
 ·by_cases q:g=f
  ·rw[q];exact gz.mpr rfl
  ·exact absurd (if_neg q) hg
theorem afW{y:V}{u:Value}{Q:Unit->Shared->Prop}(I:Inv X p_ σ H s){vs:Array Value}(e:H a=some (lU a (.ref C) (some d) vs))(ed:H d=some (nD d fs))(c:XF X.K C)(n:bj X.K C f)(hl:fs.length<1000)(ry:RelV y u)
  (h:∀s',Inv X p_ σ (upd H d (nD d (aD f y fs))) s'->Q () s'):wpAny (model X.prog X.w) A (setAttr (.ref a) f u) Q E s:=by
 refine oE (LH I.aG e) λsl hx=>?_;refine oA (KO I.aG ed) λ_ aa=>?_;refine aL aa λmA hn r wi=>?_;refine aL c.cd λcd h1 h2 h3=>?_;have hz:(fs.map (·.1)).length<=aP:=by rw[aX,lu];lia
 refine afY I.cH hx hn wi hz c.sa h1 h2 h3 n λh' n' sb=>h _ ?_;have hd:∃o,h'.get? d=some o:=let ⟨o,_,_,e',_⟩:=n';⟨o,e'⟩
 refine I.write (x:=d) (e:=d) (by rw[ed];exact nS) (.inl rfl) (λb q hb z=>(sb.2 b hb).trans z) hd (UI ?_ n' (λg=>?_) λg hg=>?_)
 ·have:=ko f y fs;lia
 ·show lR ((aD f y fs).lookup g) (if g=f then some u else mA g);rw[eP]
  by_cases q:g=f
  ·rw[if_pos q,if_pos q];exact ry
  ·rw[if_neg q,if_neg q];exact r g
 ·by_cases q:g=f
  ·rw[q];exact(AV f y fs).1
  ·refine(AV f y fs).2 g (wi g λz=>hg ?_);show (if g=f then some u else mA g)=none;rw[if_neg q];exact z
end
def Vw(K:PySem.W.Frag)(ta:TE)(f:Str):TE:=λσ H Q=>ta σ H λx H1=>∃a C d fs v,x=.ref a/\H1 a=some (pL a (.ref C) (some d))/\H1 d=some (nD d fs)/\XF K C/\bj K C f/\fs.lookup f=some v/\Q v H1
def ako(K:PySem.W.Frag)(ta tv:TE)(f:Str):TS:=λD σ H=>tv σ H λy H1=>ta σ H1 λx H2=>∃a C vs,x=.ref a/\H2 a=some (lU a (.ref C) none vs)/\XF K C/\bj K C f/\
 ∀d,H2 d=none->D.nx σ (upd (upd H2 a (lU a (.ref C) (some d) vs)) d (nD d [(f,y)]))
def akn(K:PySem.W.Frag)(ta tv:TE)(f:Str):TS:=λD σ H=>tv σ H λy H1=>ta σ H1 λx H2=>∃a C vs d fs,x=.ref a/\H2 a=some (lU a (.ref C) (some d) vs)/\H2 d=some (nD d fs)/\XF K C/\bj K C f/\fs.length<1000/\
 D.nx σ (upd H2 d (nD d (aD f y fs)))
section
variable{X:Cx}{o e value:Expr}{f:Str}{pos pos':Pos}{ta tv:TE}
theorem ail(ha:PE X e ta)(hb:AH e f X.env (eval e X.env)=eval e X.env):PE X (.Attribute e f pos) (Vw X.K ta f):=by
 intro p_ s σ H Q I h;refine UA hb (aO (ha p_ s σ H _ I h) λu s1 zq=>?_);refine cG zq λx H1 I1 rx zq=>?_;obtain⟨a,C,d,fs,v,zq⟩:=zq;refine md zq λex ea ed c n zq=>?_;refine oA zq λl q=>?_;subst ex;obtain rfl:u=cb a:=rx;exact aiU I1 ea ed c n l λu s2 I2 ru=>(dv v H1 I2 ru q)
theorem af'(ha:PE X o ta)(hv:PE X value tv)(hs:AY value (some (.Attribute o f pos')) pos.line X.env=pure false):PS X (.Assign [.Attribute o f pos'] value pos) (ako X.K ta tv f):=by
 intro p_ s σ H D I h;refine PL (aO (hv p_ s σ H _ I h) λu s1 ⟨y,H1,I1,ry,q⟩=>aO (ha p_ s1 σ H1 _ I1 q) λov s2 zq=>?_) hs;refine cG zq λx H2 I2 rx zq=>?_;refine MT zq λa C vs zq=>?_;obtain⟨ex,ea,c,n,q2⟩:=zq;subst ex;obtain rfl:ov=cb a:=rx;exact afX I2 ea c n ry λd s3 hd I3=>(eW σ _ I3 (q2 d hd))
theorem af9(ha:PE X o ta)(hv:PE X value tv)(hs:AY value (some (.Attribute o f pos')) pos.line X.env=pure false):PS X (.Assign [.Attribute o f pos'] value pos) (akn X.K ta tv f):=by
 intro p_ s σ H D I h;refine PL (aO (hv p_ s σ H _ I h) λu s1 ⟨y,H1,I1,ry,q⟩=>aO (ha p_ s1 σ H1 _ I1 q) λov s2 zq=>?_) hs;refine cG zq λx H2 I2 rx zq=>?_;obtain⟨a,C,vs,d,fs,zq⟩:=zq;refine md zq λex ea ed c n zq=>?_;refine oA zq λl q2=>?_;subst ex;obtain rfl:ov=cb a:=rx;exact afW I2 ea ed c n l ry λs3 I3=>(eW σ _ I3 q2)
end
structure XY(K:PySem.W.Frag)(C f:Addr):Prop where
 exc:EN K C
 init:W.findIn K (.ref C) "__init__" = some (some (.ref f))
 fn:PySem.W.isFn K (.ref f)=true
 kp:PySem.W.keepIn K (.ref C)=true
abbrev Ly(t:Addr):Array Value:=#[.ref t,.none,.none,.none,.bool false,.none]
def ahR(C:Addr)(sp:Sp)(W:WX)(t:TA):TS:=λ_ σ H=>t σ H λvs H1=>vs.length<=aP/\∀ea ta,H1 ea=none->sp (.ref ea::vs) (upd H1 ea (lU ea (.ref C) none (Ly ta)))
 (λr H2=>r=.aJ/\∃dd,H2 ea=some (lU ea (.ref C) dd (Ly ta))/\W σ (.ref C) dd (del H2 ea)) (λ_ _ _=>False)
section
variable{X:Cx}{W:WX}{k:Nat}{C f:Addr}{fd:aV}{ps:List Str}{sp:Sp}{x:Str}{np mw pos:Pos}{e:Expr}{es:List Expr}{t:TA}{P:Program}{w:World}
theorem aeF(hc:X.calm=true)(hL:pC X W)(xc:XY X.K C f)(F:aw P w X.K X.mg X.base az k f fd ps sp)(hr:dX (k+1) X.A)(hb:Binds X.K fd ps [])(hg:Gl X x)(hm:X.mg x=some (.ref C))(ha:PA X (e::es) t)
  (hP:X.prog=P:=by rfl) (hw:X.w=w:=by rfl) (jZ:(x == ("__debug__" : Str))=false:=by decide)
  (he:cg (e::es) X.env=(false,eval e X.env)::cg es X.env:=by rfl) (dO:(backTo mw (cg es X.env)).any (·.1)=false:=by rfl) :
  PS X (.Raise (some (.Call (.Name x np) (e::es) [] mw)) none pos) (ahR C sp W t):=by
 subst hP hw;intro p_ s σ H D I h;rw[arm_exec_Raise];refine aq (yN (Q6 (C:=C) (I.ok.hd hc) (aq (iA ?_ (λv s3 z=>aq (yN (aN z))) λ_ _ y=>y))));refine uI (nU I hg hm ?_ jZ);refine PySem.W.callWith_K (h₀:=X.base) I.ok.mod.oq xc.kp (aO (ha mw p_ s σ H _ I h) λus s1 ⟨vs,H1,I1,r,hz,q⟩=>⟨I1.cH,?_⟩) he dO;refine oE (xc.exc.at I1.cH) λoi xa=>?_;obtain⟨h1,g1,d1,t1,YE⟩:=s1;have oq:∀h':Heap,(∀b o,h1.get? b=some o->h'.get? b=some o)->X.K.In h':=λh' k a o z=>k a o (I1.cH a o z);refine afx (f:=f) xa (by rw[uQ,<-r.length];exact hz) (λh' k=>PySem.W.looks_findIn (oq h' k) xc.init) (λh' self k=>PySem.W.bind_fn (oq h' k) self (beq_iff_eq.mp xc.fn)) ?_;rw[uQ];have fr:H1 (h1.objs.size+1)=none:=I1.aG.fresh (jq _);have q1:=q (h1.objs.size+1) h1.objs.size fr;have ge:((h1.push (BO us)).push (newX C h1.objs.size)).get? (h1.objs.size+1)=some (newX C h1.objs.size):=by heap_get
 have I2:Inv X p_ σ (upd H1 (h1.objs.size+1) (lU (h1.objs.size+1) (.ref C) none (Ly h1.objs.size))) ⟨(h1.push (BO us)).push (newX C h1.objs.size),g1,d1,t1,YE⟩:=
  I1.laid (t':=t1) (h':=(h1.push (BO us)).push (newX C h1.objs.size)) (λb o z=>bo _ (bo _ z)) (jq _) (Vf ge)
 have r2:Vals (V.ref (h1.objs.size+1)::vs) (cb (h1.objs.size+1)::us):=.cons rfl r
 have hl:(cb (h1.objs.size+1)::us++[]).length=ps.length:=by
  have e:=r2.length;rw[F.len _ _ _ _ q1]at e;rw[sY];exact e.symm
 have yw:=hb _ (cb (h1.objs.size+1)::us) I2.cH hl;rw[sY]at yw;refine rE (wN (F.run _ X.stack _ _ ⟨cb (h1.objs.size+1)::us,[]⟩ (cb (h1.objs.size+1)::us) _ _ _ (hr.make C us []) (I2.BL.make C us []) yw r2 q1) λr s' jW=>?_);cases r with
 | error e=>exact(show False from jW).elim
 | ok fl=>
  cases fl with
  | next=>exact gA jW
  | brk=>exact gA jW
  | cont=>exact gA jW
  | ret u=>
   refine nW (I2.after jW) λv H' I3 rv ev aa=>?_;refine ah aa λdd e3 q3=>?_;subst ev;refine oE (LH I3.aG e3) λsl hx=>?_;refine oE (xc.exc.at I3.cH) λoi' xa'=>?_;refine⟨rv,⟨_,_,_,_,⟨_,rfl,xa',hx,rfl,rfl,rfl,rfl,hL _ _ _ _ _ _ _ (tb:=none) ⟨I3.del e3,⟨⟨_,_,_,hx,rfl,rfl,rfl,rfl,rfl,λ_=>rfl⟩,λT z=>by cases z⟩,I1.fo (jq _) ahC,λT z=>by cases z⟩ q3⟩⟩⟩
end
end L2
namespace L2
open PySem PySem.Spec PySem.W PyProof.Rows L3
theorem ab4{K:Frag}{C:Addr}{od:Option Obj}{name:Str}{a g:Value}(hc:(clsIn K C).isSome=true)(ha:findIn K (.ref C) name=some (some a))(hn:specialIn K a (dZ "__get__")=some (some g))(ht:takesIn K a=some true) :
  findObj K C od name=some (.bind g a):=by
 refine oE (PX.mp hc) λcd gU=>?_;unfold findObj;rw[gU,ha];simp only[HH];rw[hn];simp only[HH];rw[ht];simp only[HH]
structure BY(K:Frag)(D:Addr):Prop where
 ga:findIn K (.ref D) (dZ "__getattribute__")=some (some (.builtin i3))
 gn:findIn K (.ref D) (dZ "__getattr__")=some none
 be:mroIn K D (.type "BaseException")=some true
 hd:hasDictIn K D=true
 cl:findIn K (.ref D) (dZ "__class__")=some (some (.builtin "object.__class__"))
 gt:specialIn K (.builtin "object.__class__") (dZ "__get__")=some (some (.builtin "getset_descriptor.__get__"))
 tk:takesIn K (.builtin "object.__class__")=some true
 mr:mroIn K D (.type "object")=some true
theorem ad4{prog:Program}{w:World}{A:Around}{E:Value->Shared->Prop}{s:Shared}{K:Frag}{x D:Addr}{ox:Obj}{od:Option Obj}{Q:Option Value->Shared->Prop}(c:BY K D)(X:K.In s.heap)(I:InstAt s.heap x ox D od)
  (h:Q (some (.ref D)) { s with toks:=s.toks+1 }):wpAny (model prog w) A (getAttr? (.ref x) (dZ "__class__")) Q E s:=by
 have hf:=ab4 (od:=od) (by obtain⟨cd,hc,_⟩:=any_some c.hd;rw[hc];rfl) c.cl c.gt c.tk;unfold getAttr? getAttrBy?;refine aq (wpAny_mkText (aq (Dm (Um (s:={ s with toks:=s.toks+1 }) (fill:=false) (expr:=false) X I c.ga c.gn c.be (Uo (s:={ s with toks:=s.toks+1 }) X I hf ?_ (by intro z;cases z))))));show wpAny (model prog w) A.in1 (PU (.builtin "getset_descriptor.__get__") (.builtin "object.__class__") (.ref x) (.ref D)) _ _ _;unfold PU;refine aq (ng (rE (class_get (s:={ s with toks:=s.toks+1 }) X I c.mr ?_)));exact aN (ar _ rfl (handed_on rfl (aN h)))
theorem agM{K:Frag}{x D:Addr}{ox:Obj}{od:Option Obj}(c:BY K D):KitX K (.ref x) (.ref D) (λh=>InstAt h x ox D od):=
 {ty:=λ_ _ _ I=>InstAt.type I
  it:=λM h X _=>by
   refine ah (any_some c.hd) λcd hc _=>?_;unfold clsIn at hc
   split at hc
   ·rename_i oc dd cd' sl ho
    intro A' Q' E' s' k q;exact aq (HU (k D _ (X D _ ho)) (aN q))
   ·cases hc
  ne:=λh tp dd ak n sl X pR=>by
   refine ah (any_some c.hd) λcd hc _=>?_;unfold clsIn at hc
   split at hc
   ·rename_i oc dd' cd' wc ho
    rw[Bool.eq_false_iff];intro q;have e:=cb.inj (beq_iff_eq.mp q);subst e;rw[X _ _ ho]at pR;cases pR
   ·cases hc
  ca:=λX I q=>ad4 c X I q }
def VG(K:Frag):List V->Hp->VK->Prop:=λxs H Q=>∃ea D dd cl cv b,xs=[.ref ea,cl]/\H ea=some (pL ea (.ref D) dd)/\(∀d,dd=some d->∃fs,H d=some (nD d fs))/\BY K D/\Nb cl=some cv/\kitOne K (.ref D) cv=some b/\Q (.bl b) H
theorem afG{X:Cx}:mi X (.builtin "isinstance") (VG X.K):=by
 intro p_ s σ H xs us Q I r h;obtain⟨ea,D,dd,cl,cv,b,e,he,hd,c,hc,hk,q⟩:=h;subst e;cases r with
 | cons r1 r2=>
  cases r2 with
  | cons r2 r3=>
   cases r3;cases Tn hc r2;cases r1;refine xO (Vg I.aG he) λvs sl hx=>?_
   have J:∃od,InstAt s.heap ea ⟨.ref D,dd,.fields vs,sl⟩ D od:=by
    cases dd with
    | none=>exact⟨none,hx,rfl,rfl,nS⟩
    | some d=>
     refine oE (hd d rfl) λfs hd=>?_;refine oA (KO I.aG hd) λ_ aa=>?_;refine ah aa λmA aa _=>?_;refine eV aa λo es ep eo _=>?_;exact⟨some o,⟨hx,rfl,rfl,eo⟩⟩
   refine oE J λod J=>?_;exact kia_one (agM c) I.cH J hk (λz=>nomatch z) λtk=>(dv (.bl b) H (I.tok tk) rfl q)
theorem Lx{X:Cx}(K:Frag)(h:X.K=K:=by rfl):mi X (.builtin "isinstance") (VG K):=by subst h;exact afG
end L2
namespace L2
open PySem PySem.Spec PyProof.Rows
theorem Lz{J:It}{n:Nat}{g:TG}{tb:TS}{D:Ends}{σ:St}{H:Hp}(Pv:Nat->St->Hp->Prop)(h0:Pv 0 σ H)(OV:∀i σ H,i<n->Pv i σ H->J.go i H)(cR:∀σ H,Pv n σ H->J.stop n H)
  (hs:∀i σ H,i<n->Pv i σ H->∀x H',J.vP i H x H'->g x σ H' λσ2 H2=>tb { D with nx:=Pv (i+1),ct:=Pv (i+1),bk:=D.nx } σ2 H2) (hd:∀σ H,Pv n σ H->D.nx σ H) :
  ∃W:Nat->Nat->St->Hp->Prop,(∃m,W 0 m σ H)/\∀i m σ H,W i m σ H->
   (J.stop i H/\D.nx σ H)\/(J.go i H/\∃N:St->Hp->Prop,(∀σ' H',N σ' H'->∃m',m'<m/\W (i+1) m' σ' H')/\∀x H',J.vP i H x H'->g x σ H' λσ2 H2=>tb { D with nx:=N,ct:=N,bk:=D.nx } σ2 H2):=by
 refine⟨λi m σ H=>m=n-i/\i<=n/\Pv i σ H,⟨n,by simp,bX _,h0⟩,?_⟩;rintro i m σ H ⟨rfl,hi,p⟩
 by_cases dB:i<n
 ·exact .inr ⟨OV i σ H dB p,⟨Pv (i+1),λσ' H' p'=>⟨n-(i+1),om,rfl,dB,p'⟩,hs i σ H dB p⟩⟩
 ·have e:i=n:=om;subst e;exact .inl ⟨cR σ H p,hd σ H p⟩
end L2
namespace TL
open PySem PySem.Spec PyProof.Rows PySem.SeqAt L2 L3
variable{P:Program}{w:World}{K:PySem.W.Frag}{mg:Str->Option Value}{base:Heap}
structure Vp(K:PySem.W.Frag)(c cE:Addr):Prop where
 xc:XC K c
 self:PySem.W.kitCls K (.ref c) (.ref c)=some true
 base:PySem.W.kitCls K (.ref c) (.type "BaseException")=some true
 te:PySem.W.kitOne K (.ref c) (.ref cE)=some true
 ve:PySem.W.kitOne K (.ref c) (.type "ValueError")=some true
def LC:V->Bool
 | .aJ=>true
 | .bl _=>true
 | .int _=>true
 | .str x=>lJ x
 | _=>false
theorem Up{H:Hp}{v:V}(h:LC v=true):(∃T,tyName H v=some T)/\cq H v=none:=by
 cases v with
 | aJ=>exact⟨⟨_,rfl⟩,rfl⟩
 | bl b=>exact⟨⟨_,rfl⟩,rfl⟩
 | int i=>exact⟨⟨_,rfl⟩,rfl⟩
 | str x=>exact⟨⟨_,rfl⟩,rfl⟩
 | _=>cases h
def Told(H:Hp)(v:V):Prop:=(∃T,tyName H v=some T)/\∀xs,cq H v=some xs->xs.length<=1000/\∀x∈xs,LC x=true
theorem uW{H H':Hp}{v:V}{T:String}(s:af H H')(h:tyName H v=some T):cq H' v=cq H v:=by
 cases v with
 | ref a=>
  unfold tyName at h;unfold cq;cases e:H a with
  | none=>simp only[e]at h;cases h
  | some o=>simp only[s a o e,e]
 | _=>rfl
theorem Told.same{H H':Hp}{v:V}(s:af H H')(h:Told H v):Told H' v:=by
 refine oA h λaa hx=>?_;refine oE aa λT hT=>?_;refine⟨⟨T,rD s hT⟩,λxs e=>?_⟩;rw[uW s hT]at e;exact hx xs e
def tG(H:Hp)(v:V)(n:Int):Bool:=match cq H v with
 | some [.str x,_,.int q]=>decide (x = "skip")&&decide (n<q)
 | _=>false
def fj(H:Hp)(v:V)(p n:Int):Bool:=kD H v&&(!tG H v n&&decide (p<120))
theorem Ja{H H':Hp}{v:V}{p n:Int}(s:af H H')(h:Told H v):fj H' v p n=fj H v p n:=by
 refine oA h λaa _=>?_;refine oE aa λT hT=>?_;unfold fj kD tG;rw[uW s hT]
structure CK(K:PySem.W.Frag)(c cS:Addr)(b:Bool):Prop where
 cl:PySem.W.findIn K (.ref c) "__class__" = some (some (.builtin "object.__class__"))
 mr:PySem.W.mroIn K c (.type "object")=some true
 one:PySem.W.kitOne K (.ref c) (.ref cS)=some b
structure Nf(K:PySem.W.Frag)(t:aZ):Prop where
 gt:PySem.W.specialIn K (.builtin "object.__class__") "__get__" = some (some (.builtin "getset_descriptor.__get__"))
 tk:PySem.W.takesIn K (.builtin "object.__class__")=some true
 put:CK K t.lP t.gq false
 add:CK K t.lQ t.gq false
 set:CK K t.kI t.gq false
 look:CK K t.lB t.gq false
 swap:CK K t.lA t.gq false
 clear:CK K t.rW t.gq false
 skip:CK K t.gq t.gq true
section
variable{t:aZ}
theorem ajS(T:qk K mg t)(S:Nf K t){x:Str}{ps:List V}(h:stepOk (.str x::ps)=true):eh K (cZ t x)/\CK K (cZ t x) t.gq (decide (x = "skip")):=by
 unfold cZ
 by_cases e1:x = "put"
 ·subst e1;rw[if_pos rfl];exact⟨T.vy,S.put⟩
 rw[if_neg e1]
 by_cases e2:x = "add"
 ·subst e2;rw[if_pos rfl];exact⟨T.tV,S.add⟩
 rw[if_neg e2]
 by_cases e3:x = "set"
 ·subst e3;rw[if_pos rfl];exact⟨T.r6,S.set⟩
 rw[if_neg e3]
 by_cases e4:x = "look"
 ·subst e4;rw[if_pos rfl];exact⟨T.rV,S.look⟩
 rw[if_neg e4]
 by_cases e5:x = "swap"
 ·subst e5;rw[if_pos rfl];exact⟨T.qj,S.swap⟩
 rw[if_neg e5]
 by_cases e6:x = "clear"
 ·subst e6;rw[if_pos rfl];exact⟨T.ze,S.clear⟩
 rw[if_neg e6];have e7:=RS h e1 e2 e3 e4 e5 e6;subst e7;exact⟨T.tQ,S.skip⟩
def Wx(C:Addr):Sp:=λvs H Q _=>∃a fv c p,vs=[.ref a,c,p]/\H a=some (lU a (.ref C) none fv)/\∀d,H d=none->Q .aJ (upd (upd H a (lU a (.ref C) (some d) fv)) d (nD d [("clerk",c),("place",p)]))
theorem anY:bg ["self","clerk","place"] ["self","clerk","place"] (aQ MO):=bu
theorem amo{f C:Addr}{fd:aV}(F:aW K "__init__" "NoProgram.__init__" MO f fd)(xf:XF K C)(n1:bj K C "clerk")(n2:bj K C "place"):aw P w K mg base az 1 f fd ["self","clerk","place"] (Wx C):=by
 refine F.ok anY (λvs H Q E h=>?_) λaI A _ s H vs Q E hr h=>?_
 ·refine ph h λa fv c p aa _=>?_;clear h;subst aa;rfl
 ·obtain⟨a,fv,c,p,aa,ha,k⟩:=h;subst aa;refine nE (ax (af' (pv 0) (pv 1) rfl) (aB (af9 (pv 0) (pv 2) rfl))) ?_;refine vr rfl (vr rfl (jh a C fv rfl ha xf n1 λd hd=>?_));have nda:a≠d:=ba ha hd;refine ar _ rfl (vr rfl (⟨a,C,fv,d,([("clerk",c)]),rfl,(by rw[aj nda];exact au),au,xf,n2,(by show 1<1000;decide),?_⟩));rw[nj];exact k d hd
theorem afU{v1 v2:V}(h:stepOk [.str "skip",v1,v2]=true):∃q,v2=.int q:=by
 have e:cD "skip" = some [4,121]:=by unfold cD;rw[if_neg dk,if_neg dk,if_neg dk,if_neg dk,if_neg dk,if_neg dk,if_pos rfl]
 have h':(match cD "skip" with | none=>false | some bs=>decide ([v1,v2].length=bs.length)&&([v1,v2].zip bs).all λp=>kN p.1 p.2)=true:=h;rw[e]at h';simp only[fJ]at h';have h2:(kN v1 4&&(kN v2 121&&true))=true:=h'.2;rw[fJ,fJ]at h2;cases v2 with
 | int q=>exact⟨q,rfl⟩
 | _=>cases h2.2.1
def UU:Sp:=λvs H Q _=>∃v p n,vs=[v,.int p,.int n]/\Told H v/\∀H',af H H'->Q (.bl (fj H v p n)) H'
theorem UX:bg ["told","place","length","step"] ["told","place","length"] (aQ Ma):=bu
theorem aiA{f cN cE:Addr}{fd:aV}(F:aW K "fits" "fits" Ma f fd)(T:qk K mg t)(S:Nf K t)(xN:Vp K cN cE)(mX:mg "NoStep" = some (.ref cN)):aw P w K mg base az 5 f fd ["told","place","length"] UU:=by
 have GX:aw P w K mg base (dg P w) 4 t.fO t.ue ["told"] (Ka t cN):=SM T xN.xc mX;refine ah T.cn.long λuL mL rL=>?_;refine F.ok UX (λvs H Q E h=>?_) λaI A _ s H vs Q E hr h=>?_
 ·refine eV h λv p n aa _=>?_;clear h;subst aa;rfl
 ·refine kA h λv p n aa bc k=>?_;clear h;subst aa;refine oA bc λaa W8=>?_;refine oE aa λTy hT=>?_;have OF:∀xs,cq H v=some xs->xs.length<=1000/\∀x∈xs,∃T,tyName H x=some T:=λxs e=>⟨(W8 xs e).1,λx hx=>(Up ((W8 xs e).2 x hx)).1⟩;refine⟨_,ax (aii rfl rfl rfl mX xN.base (λW pn E hL hp=>aB (bZ (i:=3) UX.nd rfl (aR rfl) (JC GX hr hL rfl T.mO T.NT.kp T.bO .nil (ae (pv 0) ag)))) λea pn=>aB (a8 kG)) (ax (cF (PW.pt (pw_and (iX (cA jK rfl T.bl.jU jc (ae (pv 3) (ae (fV (v:=.ref t.gq) rfl T.Ls rfl) ag)))) (pw_and1 (cw EF (a6 (pv 3) rfl) (pv 2) (bU _))))) (aB (a8 kG)) cU) (aB (a8 (tH Bx (pv 1) (fV rfl mL rL) (bU _))))),?_⟩;refine vr rfl (⟨v,Ty,rfl,hT,OF,(λa x ps e1 e2 e3 z dx H1 s1 hz da=>?_),(λcR H1 s1=>⟨xN.self,?_⟩)⟩)
  ·subst e1;have cR:kD H (.ref a)=true:=by unfold kD;rw[gZ e2];exact e3
   refine oA (ajS T S e3) λcl ck=>?_;refine vr rfl (⟨_,(.ref t.gq),(.ref (cZ t x)),(.ref t.gq),(decide (x = "skip")),rfl,(iC.ins da cl ck.cl S.gt S.tk ck.mr),rfl,ck.one,(tk (cx (λhx=>?_) λhx=>?_))⟩)
   ·subst hx;obtain⟨v1,v2,mU⟩:=xo e3 (bs:=[4,121]) (by unfold cD;rw[if_neg dk,if_neg dk,if_neg dk,if_neg dk,if_neg dk,if_neg dk,if_pos rfl]);subst mU;refine oE (afU e3) λq aa=>?_;subst aa;have ef:tG H (.ref a) n=decide (n<q):=by unfold tG;rw[gZ e2];rfl
    refine vF (v:=.int q) rfl da T.tQ T.Lp rfl (vr rfl ⟨_,⟨_,rfl,rfl,_,rfl,cx (λhq=>?_) λhq=>?_⟩⟩)
    ·have ee:fj H (.ref a) p n=false:=by unfold fj;rw[ef,decide_eq_true hq,cR];rfl
     have kk:=k H1 s1;rw[ee]at kk;exact kk
    ·have ee:fj H (.ref a) p n=decide (p<120):=by unfold fj;rw[ef,decide_eq_false hq,cR];rfl
     have kk:=k H1 s1;rw[ee]at kk;exact ar _ rfl ⟨_,⟨_,rfl,rfl,kk⟩⟩
   ·have ef:tG H (.ref a) n=false:=by
     unfold tG;rw[gZ e2]
     split
     ·rename_i xx y q heq
      cases heq;rw[decide_eq_false hx];rfl
     ·rfl
    have ee:fj H (.ref a) p n=decide (p<120):=by unfold fj;rw[ef,cR];rfl
    have kk:=k H1 s1;rw[ee]at kk;exact ar _ rfl ⟨_,⟨_,rfl,rfl,kk⟩⟩
  ·have ee:fj H v p n=false:=by unfold fj;rw[cR];rfl
   have kk:=k H1 s1;rw[ee]at kk;exact kk
end
theorem amC{X:Cx}(K:W.Frag)(h:X.K=K:=by rfl):mi X (.builtin "isinstance") (WB K):=by subst h;exact jK
def dA(H:Hp)(x:V):List V:=(cq H x).getD []
def ik(H:Hp)(v:V):Bool:=match cq H v with
 | some xs=>(decide (1<=xs.length)&&decide (xs.length<=4))&&xs.all λx=>(cq H x).isSome
 | none=>false
def qq(H:Hp)(v:V):Prop:=(∃T,tyName H v=some T)/\∀xs,cq H v=some xs->xs.length<=1000/\∀x∈xs,(∃T,tyName H x=some T)/\∀ys,cq H x=some ys->ys.length<=1000/\∀y∈ys,Told H y
def gr(H:Hp)(n:Int):Nat->List V->Option Nat
 | _,[]=>none
 | p,v::r=>if fj H v p n=true then gr H n (p+1) r else some p
def gC(H:Hp):Nat->List V->Option (Nat×Nat)
 | _,[]=>none
 | c,x::r=>match gr H (dA H x).length 0 (dA H x)with
  | some p=>some (c,p)
  | none=>gC H (c+1) r
theorem Jf{H:Hp}{n:Int}:∀{l r:List V} {p:Nat},gr H n p l=none->gr H n p (l++r)=gr H n (p+l.length) r
 | [],r,p,_=>rfl
 | v::l,r,p,h=>by
  have h':(if fj H v p n=true then gr H n (p+1) l else some p)=none:=h;show (if fj H v p n=true then gr H n (p+1) (l++r) else some p)=_
  by_cases e:fj H v p n=true
  ·rw[if_pos e]at h' ⊢;rw[Jf h',fG]
   congr 1
   lia
  ·rw[if_neg e]at h';cases h'
theorem Il{H:Hp}:∀{l r:List V} {c:Nat},gC H c l=none->gC H c (l++r)=gC H (c+l.length) r
 | [],r,c,_=>rfl
 | x::l,r,c,h=>by
  have h':(match gr H (dA H x).length 0 (dA H x)with | some p=>some (c,p) | none=>gC H (c+1) l)=none:=h;show (match gr H (dA H x).length 0 (dA H x)with | some p=>some (c,p) | none=>gC H (c+1) (l++r))=_;cases e:gr H (dA H x).length 0 (dA H x)with
  | some p=>rw[e]at h';cases h'
  | none=>
   rw[e]at h';show gC H (c+1) (l++r)=_;rw[Il h',fG]
   congr 1
   omega
theorem take_cons{α:Type}{l:List α}{i:Nat}{x:α}(h:l[i]?=some x):l=l.take i++x::l.drop (i+1):=by
 refine oE (eJ.mp h) λhi e=>?_;rw[<-e,<-aas hi,List.take_append_drop]
theorem aem{H:Hp}{n:Int}{l:List V}{i:Nat}{x:V}(hx:l[i]?=some x)(h:gr H n 0 (l.take i)=none)(f:fj H x i n=true):gr H n 0 (l.take (i+1))=none:=by
 have hi:i<l.length:=(eJ.mp hx).1;rw[lj,hx,Jf h,ff,AE (cO hi),QM];show (if fj H x i n=true then none else some i)=none;rw[if_pos f]
theorem Sl{H:Hp}{n:Int}{l:List V}{i:Nat}{x:V}(hx:l[i]?=some x)(h:gr H n 0 (l.take i)=none)(f:fj H x i n=false):gr H n 0 l=some i:=by
 have hi:i<l.length:=(eJ.mp hx).1;rw[take_cons hx,Jf h,ff,AE (cO hi),QM];show (if fj H x i n=true then _ else some i)=some i;rw[f,if_neg dh]
theorem ab3{H:Hp}{l:List V}{i:Nat}{x:V}(hx:l[i]?=some x)(h:gC H 0 (l.take i)=none)(f:gr H (dA H x).length 0 (dA H x)=none):gC H 0 (l.take (i+1))=none:=by
 rw[lj,hx,Il h];show (match gr H (dA H x).length 0 (dA H x)with | some p=>some (_,p) | none=>none)=none;rw[f]
theorem QG{H:Hp}{l:List V}{i p:Nat}{x:V}(hx:l[i]?=some x)(h:gC H 0 (l.take i)=none)(f:gr H (dA H x).length 0 (dA H x)=some p):gC H 0 l=some (i,p):=by
 have hi:i<l.length:=(eJ.mp hx).1;rw[take_cons hx,Il h,ff,AE (cO hi),QM];show (match gr H (dA H x).length 0 (dA H x)with | some p=>some (i,p) | none=>_)=some (i,p);rw[f]
theorem aiG:(["part"]:List Str).Nodup:=dk
section
variable{t:aZ}
def VC:Sp:=λvs H Q _=>∃v,vs=[v]/\qq H v/\∀H',af H H'->Q (.bl (ik H v)) H'
theorem amh:bg ["program"] ["program"] (aQ MR):=bu
theorem akC{f:Addr}{fd:aV}(F:aW K "has_clerks" "has_clerks" MR f fd)(B:Bl mg)(C:∃u,mg "CLERKS" = some u/\RelV (.int 4) u):aw P w K mg base az 1 f fd ["program"] VC:=by
 refine ah C λuC mC rC=>?_;refine F.ok amh (λvs H Q E h=>?_) λaI A _ s H vs Q E hr h=>?_
 ·refine ah h λv aa _=>?_;clear h;subst aa;rfl
 ·refine aL h λv aa bc k=>?_;clear h;subst aa;refine oA bc λaa hx=>?_;refine oE aa λTy hT=>?_
  refine⟨_,ax (cF (PW.pt (pw_or (nk (iX (cA jK rfl B.jU jc (ae (pv 0) (ae (pf (v:=.ty "tuple") rfl B.tuple uU rfl) ag))))) (pw_or1 (nk (af7 Mf Mf ay (cA iG rfl B.len PySem.boot_len (ae (pv 0) ag)) (fV rfl mC rC)))))) (aB (a8 kG)) cU) (aB (a8 (cA (DP rfl) rfl B.all boot_all (ae (ji (N:=["part"]) (idx:=[]) rfl (dN.of (by kernel_rfl)) (je (bX _))
    (tM (pv 0)) (λ_ _ _ _=>de (i:=0) aiG rfl (aR rfl) (.inr rfl)) (λ_ _ _ _=>jt)
    λ_ _ _ _=>cA (amC K) rfl B.jU jc (ae (pv 0) (ae (pf (v:=.ty "tuple") rfl B.tuple uU rfl) ag))) ag)))),?_⟩
  cases hv:cq H v with
  | none=>
   have hi:qA Ty "tuple" = false:=by rw[Bq hT,hv];rfl
   have cR:ik H v=false:=by unfold ik;rw[hv]
   have kk:=k H (af.refl H);rw[cR]at kk;refine ar v rfl (cY _ _ _ _ (gD _ rfl (nF hT) rfl (nz hT qc) (ar _ rfl ?_)));rw[hi];exact iM (iM kk)
  | some xs=>
   refine ah (yY hv) λa e0 ha=>?_;subst e0;refine oA (hx xs hv) λhl jV=>?_;have hi:qA Ty "tuple" = true:=by rw[Bq hT,hv];rfl
   have kk:∀H',af H H'->Q (.bl ((decide (1<=xs.length)&&decide (xs.length<=4))&&xs.all λx=>(cq H x).isSome)) H':=λH' s=>by
    have q:=k H' s;unfold ik at q;rw[hv]at q;exact q
   refine vr rfl (cY _ _ _ _ (gD _ rfl (nF hT) rfl (nz hT qc) (ar _ rfl ?_)));rw[hi];refine fk ?_;refine vr rfl (dv a xs rfl (.inr (aE.of ha)) ⟨_,⟨_,rfl,rfl,_,rfl,cx (λh1=>?_) λh1=>?_⟩⟩)
   ·have e1:decide (1<=xs.length)=true:=decide_eq_true li;rw[e1,oU]at kk;refine⟨_,⟨_,rfl,rfl,_,rfl,EJ (λh2=>?_) λh2=>?_⟩⟩
    ·have e2:decide (xs.length<=4)=false:=decide_eq_false λz=>h2 li;rw[e2,rn]at kk;exact kk H (af.refl H)
    have e2:decide (xs.length<=4)=true:=decide_eq_true li;rw[e2,oU]at kk;refine ar _ rfl (c8 a rfl ⟨xs,aE.of ha⟩ ?_);refine iW (n:=xs.length) (λi ys H'=>i<=xs.length/\af H H'/\ys=(xs.take i).map λx=>V.bl (cq H x).isSome) ?_ ?_ ?_ ?_ ?_ ?_ ?_
    ·exact cO (c9 w0)
    ·exact iq (bX _) (af.refl _) rfl
    ·rintro i ys H' ⟨_,_,e⟩;rw[e,aX,ff];exact xl
    ·rintro i ys H' hi ⟨_,s1,_⟩;exact eW xs (xs[i]) (aE.of (s1 _ _ ha)) (bb hi)
    ·rintro ys H' ⟨_,s1,_⟩;exact ar xs (aE.of (s1 _ _ ha)) (aF _)
    ·rintro i ys H' hi ⟨_,s1,e⟩ x fb ⟨eH,eN⟩;subst eH;have uu:=eN xs (aE.of (s1 _ _ ha));refine oA (jV x (cQ uu)) λaa _=>?_;refine oE aa λTx yx=>?_;have Xw:=rD s1 yx;refine vr rfl (cY _ _ _ _ (⟨_,rfl,(nF Xw),rfl,(nz Xw qc),hi,s1,?_⟩));rw[lj,uu,km,<-e,Bq yx];rfl
    ·rintro ys H' ⟨_,s1,e⟩;refine⟨?_,λr i7=>?_⟩
     ·rw[e,aX,ff];exact cO (c9 li)
     have ey:ys=((xs.map λx=>(cq H x).isSome)).map V.bl:=by
      rw[e,iE (aF _),yR];rfl
     refine dv r (xs.map λx=>(cq H x).isSome) rfl (av.of (by rw[au,ey])) ?_;rw[AJ];exact kk _ (aH s1 i7)
   ·have e1:decide (1<=xs.length)=false:=decide_eq_false λz=>h1 li;rw[e1,rn,rn]at kk;exact ar _ rfl (iM (kk H (af.refl H)))
def KR(cC cP:Addr):Sp:=λvs H Q E=>∃v,vs=[v]/\qq H v/\(ik H v=false->∀H',af H H'->E (.ref cC) none H')/\
 (ik H v=true->∀xs,cq H v=some xs->(gC H 0 xs=none->∀H',af H H'->Q .aJ H')/\
  ∀c p,gC H 0 xs=some (c,p)->∀d H',af H H'->H' d=some (nD d [("clerk",.int c),("place",.int p)])->E (.ref cP) (some d) H')
theorem Bi:bg ["program","clerk","part","place","told"] ["program"] (aQ IW):=bu
theorem ae6{H:Hp}{v:V}{xs:List V}(h:ik H v=true)(hv:cq H v=some xs):∀x∈xs,cq H x=some (dA H x):=λx hx=>by
 unfold ik at h;rw[hv]at h;have h':((decide (1<=xs.length)&&decide (xs.length<=4))&&xs.all λx=>(cq H x).isSome)=true:=h;rw[fJ]at h';have:=yI.mp h'.2 x hx;refine oE (PX.mp this) λys e=>?_;unfold dA;rw[e];rfl
theorem aiy{f fH fF fI cC cP:Addr}{fd fdH pX dY:aV}(F:aW K "look_over" "look_over" IW f fd)(B:Bl mg)(GU:mg "enumerate" = none)
  (GH:aw P w K mg base az 1 fH fdH ["program"] VC) (kH:W.keepIn K (.ref fH)=true) (bH:Binds K fdH ["program"] []) (mH:mg "has_clerks" = some (.ref fH))
  (GF:aw P w K mg base az 5 fF pX ["told","place","length"] UU) (kF:W.keepIn K (.ref fF)=true) (bF:Binds K pX ["told","place","length"] []) (mF:mg "fits" = some (.ref fF))
  (xC:XC K cC) (mC:mg "NoClerks" = some (.ref cC)) (xP:XY K cP fI) (GI:aw P w K mg base az 1 fI dY ["self","clerk","place"] (Wx cP)) (bI:Binds K dY ["self","clerk","place"] []) (mP:mg "NoProgram" = some (.ref cP)) :
  aw P w K mg base (dg P w) 6 f fd ["program"] (KR cC cP):=by
 refine F.xM Bi (λvs H Q E h=>?_) λaI A outer s H vs Q E hr hL hp h=>?_
 ·refine ah h λv aa _=>?_;clear h;subst aa;rfl
 ·refine gi h λv aa hP kC kP=>?_;clear h;subst aa
  refine⟨_,ax (cF (nk (iX (dF GH (hr.mono qc) rfl mH kH bH .nil aS (ae (pv 0) ag)))) (aB (A8 rfl hL xC rfl mC (ae bw ag))) cU)
   (aB (rQ hp rfl (D2 (b:=false) rfl GU (ae (pv 0) ag)) (zk rfl (pe (de (i:=1) Bi.nd rfl (aR rfl)) (pe (de (i:=2) Bi.nd rfl (aR rfl)) za))) (aB (rQ hp rfl (D2 (b:=false) rfl GU (ae (pv 2) ag)) (zk rfl (pe (de (i:=3) Bi.nd rfl (aR rfl)) (pe (de (i:=4) Bi.nd rfl (aR rfl)) za))) (aB (cF (nk (iX (dF GF hr rfl mF kF bF .nil aS (ae (pv 4) (ae (pv 3) (ae (cA iG rfl B.len PySem.boot_len (ae (pv 2) ag)) ag)))))) (aB (aeF rfl hL xP GI (hr.mono qc) bI rfl mP (ae (pv 1) (ae (pv 3) ag)))) cU)))))),?_⟩
  refine vr rfl (c8 v rfl hP λH1 s1=>⟨_,rfl,?_⟩);cases hM:ik H v with
  | false=>exact iM ⟨by show 1<=aP;decide,kC hM H1 s1⟩
  | true=>
  refine fk ?_
  obtain⟨xs,hv⟩:∃xs,cq H v=some xs:=by
   unfold ik at hM;cases e:cq H v with
   | none=>rw[e]at hM;cases hM
   | some xs=>exact⟨xs,rfl⟩
  refine oA (kP hM xs hv) λkn kb=>?_;have ON:=ae6 hM hv;refine oA hP λ_ hx=>?_;refine oA (hx xs hv) λhl jV=>?_;refine ah (yY hv) λa e0 ha=>?_;subst e0;refine vr rfl (dv a xs rfl (aE.of (s1 _ _ ha)) (Lz (n:=xs.length) (λi σ H'=>i<=xs.length/\∃c q p d,σ=[some (.ref a),c,q,p,d]/\af H H'/\gC H 0 (xs.take i)=none) ⟨bX _,none,none,none,none,rfl,s1,rfl⟩ ?_ ?_ ?_ ?_))
  ·rintro i σ H' hi ⟨_,_,_,_,_,_,s2,_⟩;exact eW xs (xs[i]) (aE.of (s2 _ _ ha)) (bb hi)
  ·rintro σ H' ⟨_,_,_,_,_,_,s2,_⟩;exact ar xs (aE.of (s2 _ _ ha)) (aF _)
  ·rintro i σ H2 hi ⟨_,c,q,p,d,rfl,s2,hb⟩ z H3 ⟨r,x,i7,ez,eH,eN⟩;subst ez;subst eH;have uu:=eN xs (aE.of (s2 _ _ ha));have hm:=cQ uu;refine oA (jV x hm) λaa oF=>?_;refine oE aa λTx yx=>?_;have Zx:=ON x hm;refine oA (oF _ Zx) λOy hyt=>?_;refine ah (yY Zx) λb eb pW=>?_;subst eb;have s3:af H (upd H2 r (.tup [.int i,.ref b])):=aH s2 i7;refine qi r ([.int i,.ref b]) rfl (aE.of au) rfl (eW (.int i) ([.ref b]) rfl (dv (.ref b) ([]) rfl rfl ?_));refine vr rfl (dv b (dA H (.ref b)) rfl (aE.of (s3 _ _ pW)) (Lz (n:=(dA H (.ref b)).length) (λj σ H'=>∃p d,σ=[some (.ref a),some (.int i),some (.ref b),p,d]/\af H H'/\gr H (dA H (.ref b)).length 0 ((dA H (.ref b)).take j)=none) ⟨p,d,rfl,s3,rfl⟩ ?_ ?_ ?_ ?_))
   ·rintro j σ H' hj ⟨_,_,_,s4,_⟩;exact eW _ ((dA H (.ref b))[j]) (aE.of (s4 _ _ pW)) (bb hj)
   ·rintro σ H' ⟨_,_,_,s4,_⟩;exact ar _ (aE.of (s4 _ _ pW)) (aF _)
   ·rintro j σ H4 hj ⟨p',d',rfl,s4,CA⟩ z' H5 ⟨r',y,wx,ez',Pw,ur⟩;subst ez';subst Pw;have Oz:=ur _ (aE.of (s4 _ _ pW));have Xa:=hyt y (cQ Oz);have s5:af H (upd H4 r' (.tup [.int j,y])):=aH s4 wx;refine qi r' ([.int j,y]) rfl (aE.of au) rfl (eW (.int j) ([y]) rfl (dv y ([]) rfl rfl ?_));refine ar _ rfl (vr rfl (vr rfl ⟨b,⟨_,rfl,.inr (aE.of (s5 _ _ pW)),y,j,_,rfl,Xa.same s5,λH6 s6=>⟨_,rfl,?_⟩⟩⟩));rw[Ja s5 Xa];cases hf:fj H y j (dA H (.ref b)).length with
    | false=>
     refine iM (ar _ rfl (vr rfl ⟨by show 2<=aP;decide,(λea ta yu=>⟨ea,_,.int i,.int j,rfl,au,λd hd=>⟨rfl,some d,?_,?_⟩⟩)⟩))
     ·rw[aj (ba au hd)];exact au
     ·have s7:af H H6:=s5.trans s6;have nde:d≠ea:=λz=>by rw[z,au]at hd;cases hd
      refine kb i j (QG uu hb (Sl Oz CA hf)) d _ (λg o e=>?_) ?_
      ·have n1:g≠ea:=ba (s7 _ _ e) yu;have n2:g≠d:=ba (show upd H6 ea _ g=some o by rw[aj n1];exact s7 _ _ e) hd;rw[xt n1,aj n2,aj n1,aj n1];exact s7 _ _ e
      ·rw[xt nde];exact au
    | true=>exact fk ⟨_,_,rfl,s5.trans s6,aem Oz CA hf⟩
   ·rintro σ H4 ⟨p',d',rfl,s4,CA⟩;rw[iE (aF _)]at CA;exact⟨hi,⟨_,_,_,⟨_,rfl,s4,ab3 uu hb CA⟩⟩⟩
  ·rintro σ H' ⟨_,c,q,p,d,rfl,s2,hb⟩;rw[iE (aF _)]at hb;exact kn hb H' s2
end
end TL
namespace L2
open PySem PySem.Spec PyProof.Rows L3
def aj'(C:Addr)(sp:Sp)(dvs:List V)(W:WX)(t:TA):TE:=λσ H Q=>t σ H λvs H1=>∀x dx,H1 x=none->H1 dx=none->dx≠x->sp (.ref x::(vs++dvs)) (upd (upd H1 dx (.own x)) x (.ins C dx [])) (λv H2=>v=.aJ/\Q (.ref x) H2) (W σ)
section
variable{X:Cx}{k:Nat}{f C:Addr}{fd:aV}{ps:List Str}{sp:Sp}{dvs:List V}{ds:List Value}{W:WX}{x m:Str}{p pos apos:Pos}{e o:Expr}{es:List Expr}{ta:TE}{t:TA}{P:Program}{w:World}
theorem aeE{p_:List (Addr×Obj)}{σ:St}{H:Hp}{s:Shared}{Q:VK}{us:List Value}{vs:List V}(M:Mk X.K C f)(F:aw X.prog X.w X.K X.mg X.base (dg X.prog X.w) k f fd ps sp)(hr:dX (k+1) X.A)(hb:Binds X.K fd ps ds)(hd:Vals dvs ds)
  (hx:pC X W) (I:Inv X p_ σ H s) (r:Vals vs us)
  (h:∀x dx,H x=none->H dx=none->dx≠x->sp (.ref x::(vs++dvs)) (upd (upd H dx (.own x)) x (.ins C dx [])) (λv H2=>v=.aJ/\Q (.ref x) H2) (W σ)) :
  wpAny (model X.prog X.w) X.A (call (.ref C) us) (EP X p_ σ Q) X.xe s:=by
 have hq:=h (s.heap.objs.size+1) s.heap.objs.size (I.aG.fresh (jq _)) (I.aG.fresh (aF _)) (eO (AA _));have I2:=Inv.made (C:=C) I;have r2:Vals (V.ref (s.heap.objs.size+1)::(vs++dvs)) (cb (s.heap.objs.size+1)::(us++ds)):=.cons rfl (r.append hd)
 have hl:(cb (s.heap.objs.size+1)::us++ds).length=ps.length:=by
  have e:=r2.length;rw[F.len _ _ _ _ hq]at e;exact e.symm
 refine rE (SS (f:=f) I.cH M.makes M.init (beq_iff_eq.mp M.fn) (wN (F.run _ X.stack _ _ ⟨cb (s.heap.objs.size+1)::us,[]⟩ (cb (s.heap.objs.size+1)::(us++ds)) _ _ (W σ) (hr.make C us []) (I2.BL.make C us []) (hb _ (cb (s.heap.objs.size+1)::us) I2.cH hl) r2 hq) λr s' jW=>?_));cases r with
 | error e=>
  obtain⟨ea,c,dd,T,H',aa,x,hE⟩:=Rt I2 jW;subst aa;exact hx _ _ _ _ _ _ _ _ x hE
 | ok fl=>
  cases fl with
  | ret u=>
   refine nW (I2.after jW) λv H' I3 rv ev q3=>?_;subst ev;exact⟨rv,⟨V.ref (s.heap.objs.size+1),H',I3,rfl,q3⟩⟩
  | next=>exact gA jW
  | brk=>exact gA jW
  | cont=>exact gA jW
theorem agc(M:Mk X.K C f)(F:aw P w X.K X.mg X.base (dg P w) k f fd ps sp)(hr:dX (k+1) X.A)(hL:pC X W)(hg:Gl X x)(hm:X.mg x=some (.ref C))(hb:Binds X.K fd ps ds)(hd:Vals dvs ds)
  (ha:PA X (e::es) t) (hP:X.prog=P:=by rfl) (hw:X.w=w:=by rfl) (jZ:(x == ("__debug__" : Str))=false:=by decide) (he:cg (e::es) X.env=(false,eval e X.env)::cg es X.env:=by rfl) (dO:(backTo pos (cg es X.env)).any (·.1)=false:=by rfl) :
  PE X (.Call (.Name x p) (e::es) [] pos) (aj' C sp dvs W t):=by
 subst hP hw;intro p_ s σ H Q I h;refine uI (nU I hg hm ?_ jZ);refine PySem.W.callWith_K (h₀:=X.base) I.ok.mod.oq M.kp (aO (ha pos p_ s σ H _ I h) λus s1 ⟨vs,H1,I1,r,q⟩=>⟨I1.cH,?_⟩) he dO;exact aeE M F hr hb hd hL I1 r q
end
theorem adY{e:Value}{env NA:Env}(h:env.frame=NA.frame):uY e env=uY e NA:=by
 unfold uY PySem.frameOf;rw[h]
section
variable{M:Model}{A:Around}{E:Value->Shared->Prop}{s:Shared}{base:Heap}{env:Env}{outer:List Env}{L e T:Addr}{cls fl:Value}{dd:Option Addr}{Q:Unit->Shared->Prop}
theorem adZ(gf:A.frames=some (env::outer))(hl:s.heap.FunFrames base (env::outer))(hf:env.frame=some L)(x:pH s.heap e cls dd T fl)
  (k0:pH s.heap e cls dd T (rawInt L)->Q () s)
  (k:∀h' T',(∀b o,b∉gx (env::outer)->b≠e->b≠T->s.heap.get? b=some o->h'.get? b=some o)->(∀b o,s.heap.get? b=some o->b≠e->b≠T->∃sl,h'.get? b=some { o with slots:=sl })->s.heap.objs.size<=T'->
   pH h' e cls dd T' (rawInt L)->Q () { s with heap:=h' }):wpAny M A (uY (.ref e) env) Q E s:=by
 refine gH (id x) λaa nT bc=>?_;obtain⟨oe,vs,a0,q,hc,oM,hd,h0,h1,qS⟩:=aa;refine cG bc λoT ts qT dT t3=>?_;have fu:1<vs.size:=(Av.mp h1).1;unfold uY;simp only[hf];refine aq (iH q hd h1 ?_);show wpAny M A (if (cb T != iI)=true then _ else _) Q E s;rw[if_pos (by simp)];refine aq (iH qT dT t3 ?_)
 by_cases GQ:(fl == rawInt L)=true
 ·rw[if_pos GQ];have:=A3 GQ;subst this;exact aN (k0 x)
 ·rw[if_neg GQ];refine aq (yM qT dT (Av.mp t3).1 ?_);have mJ:∀b,b≠T->(s.heap.update T (rq (·.setIfInBounds 3 iI))).get? b=s.heap.get? b:=λb n=>qZ _ _ (dU n);refine II (s:={ s with heap:=s.heap.update T (rq (·.setIfInBounds 3 iI)) }) gf (hl.of_keeps λb o z nf=>⟨o,(mJ b λw=>?_).trans z,rfl⟩) hf ((mJ e (dU nT)).trans q) hc oM hd h0 fu qS λh' T' a b c d=>?_
  ·rw[w,qT]at z;cases z;exact nf ts dT
  ·refine k h' T' (λx o y z n w=>a x o y z ((mJ x n).trans w)) (λx o w z n=>b x o ((mJ x n).trans w) z) ?_ d;have c':(s.heap.update T (rq (·.setIfInBounds 3 iI))).objs.size<=T':=c;rw[aaz]at c';exact c'
theorem acO{fr:Option Addr}(x:pH s.heap e cls dd T fl)(k:∀h' yA,(∀b o,b≠T->s.heap.get? b=some o->h'.get? b=some o)->pH h' e cls dd T yA->Q () { s with heap:=h' }) :
  wpAny M A (AZ (.ref e) fr) Q E s:=by
 refine gH x λaa nT bc=>?_;obtain⟨oe,vs,a0,q,hc,oM,hd,h0,h1,qS⟩:=aa;refine cG bc λoT ts qT dT t3=>?_;have s3:3<ts.size:=(Av.mp t3).1;unfold AZ;refine aq (iH q hd h1 ?_);rw[if_pos (show (cb T != iI)=true by simp)];have mJ:∀b,b≠T->(s.heap.update T (rq (·.setIfInBounds 3 (fr.elim iI λf=>rawInt f)))).get? b=s.heap.get? b:=λb n=>qZ _ _ (dU n);exact yM qT dT s3 (k _ _ (λb o n z=>(mJ b n).trans z) (iq ⟨oe,vs,a0,(mJ e (dU nT)).trans q,hc,oM,hd,h0,h1,qS⟩ nT (dv _ _ (yF _ qT (Hu (yG dT _))) (yG dT _) (by rw[Array.getElem?_setIfInBounds_self_of_lt s3]))))
theorem aeJ{α:Type}{aon:String}{BV:Env}{Q':α->Shared->Prop}(x:pH s.heap e cls dd T fl)(k:∀h' yA,(∀b o,b≠T->s.heap.get? b=some o->h'.get? b=some o)->pH h' e cls dd T yA->E (.ref e) { s with heap:=h' }) :
  wpAny M A (PySem.passOn aon (.ref e) BV:Sem α) Q' E s:=by
 refine oA (id x) λaa _=>?_;obtain⟨oe,vs,a0,q,hc,oM,hd,h0,h1,qS⟩:=aa;unfold PySem.passOn;refine aq (iH q hd h1 ?_);rw[if_neg (by simp)];exact aq (acO x λh' yA a b=>wpAny_throw (k h' yA a b))
end
structure WQ(X:Cx)(p_:List (Addr×Obj))(σ:St)(H:Hp)(s:Shared)(ea:Addr)(c:Value)(dd:Option Addr)(T:Addr)(fl:Value):Prop where
 inv:Inv X p_ σ H s
 held:pH s.heap ea c dd T fl
 fe:cV X p_ H ea
 ft:cV X p_ H T
def LN(X:Cx)(W:WX):Prop:=∀(p_:List (Addr×Obj)) (σ:St) (H:Hp) (s:Shared) (ea:Addr) (c:Value) (dd:Option Addr) (T:Addr) (fl:Value),WQ X p_ σ H s ea c dd T fl->W σ c dd H->X.xe (.ref ea) s
section
variable{P:Program}{w:World}{K:PySem.W.Frag}{mg:Str->Option Value}{base:Heap}{N:List Str}{qual:Str}{scope:Scope}{f:Addr}{cd:Value}{A:Around}{outer:List Env}{s0:Shared}{H0:Hp}{E:XK}
theorem SW{p_:List (Addr×Obj)}{σ:St}{H:Hp}{s:Shared}{ea T T':Addr}{c fl:Value}{dd:Option Addr}{h2:Heap}(x:WQ (jj (dg P w) P w K mg base N qual scope f cd A outer s0 H0 E) p_ σ H s ea c dd T fl)
  (k1:∀b o,b∉gx (envOfC qual scope s0.heap.objs.size f cd::outer)->b≠ea->b≠T->s.heap.get? b=some o->h2.get? b=some o) (k2:∀b o,s.heap.get? b=some o->b≠ea->b≠T->∃sl,h2.get? b=some { o with slots:=sl })
  (hT:s0.heap.objs.size<=T') (hn:H T'=none) (uE:xY h2 ea c dd (some T')) (hE:E c dd H):dg P w outer H0 s0 E (.ref ea) { s with heap:=h2 }:=by
 have I:=x.inv
 have big:∀{b:Addr},cV (jj (dg P w) P w K mg base N qual scope f cd A outer s0 H0 E) p_ H b->s0.heap.objs.size<=b:=λz=>by
  rcases z.2.2.2.1 with y | y
  ·exact absurd (show _∈([]:List Addr) from y) (by simp)
  ·exact y
 have CQ:=big x.fe;have tN:=big x.ft;have qM:∀{b:Addr} {o:Obj},s0.heap.get? b=some o->b<s0.heap.objs.size:=λe=>bJ e;have yh:∀{b:Addr},b<s0.heap.objs.size->b≠ea:=λh z=>absurd (eK h CQ) (by rw[z];exact iQ _);have yi:∀{b:Addr},b<s0.heap.objs.size->b≠T:=λh z=>absurd (eK h tN) (by rw[z];exact iQ _)
 have Oe:∀{b:Addr},b<s0.heap.objs.size->b∉gx outer->b∉gx (envOfC qual scope s0.heap.objs.size f cd::outer):=λh z y=>by
  rcases I.Bg _ y |> bq.mp with u | u
  ·exact absurd h (by rw[u];exact iQ _)
  ·exact z u
 have Np:eX P w H h2:=by
  refine DB (ch:=[ea,T]) I (λb hb=>?_) λb o hb hc e=>k1 b o hb (λz=>hc (by rw[z];simp)) (λz=>hc (by rw[z];simp)) e;rcases bq.mp hb with z | z
  ·rw[z];exact x.fe.1
  ·rw[gz.mp z];exact x.ft.1
 refine⟨ea,c,dd,T',H,rfl,I.os,I.bare,⟨λb o e n hb hx=>?_,λb o e n hb hx=>?_,I.base.free,λb o e hx=>?_,I.base.og,I.base.nA,I.base.nv⟩,Np,uE,CQ,hT,x.fe.1,⟨hn,hE⟩⟩
 ·have l:=qM e;exact k1 b o (Oe l hb) (yh l) (yi l) (I.base.keep b o e n hb hx)
 ·have l:=qM e;refine oE (I.base.slot b o e n hb hx) λsl q=>?_;refine oE (k2 b _ q (yh l) (yi l)) λwc q'=>?_;exact⟨wc,q'⟩
 ·have l:=qM e;refine oE (I.base.there b o e hx) λo' q=>?_;refine oE (k2 b _ q (yh l) (yi l)) λwc q'=>?_;exact⟨_,q'⟩
theorem aeY:LN (jj (dg P w) P w K mg base N qual scope f cd A outer s0 H0 E) (λ_=>E):=by
 intro p_ σ H s ea c dd T fl x hE;show wpAny (model P w) (A.deeper (envOfC qual scope s0.heap.objs.size f cd)) (leaving (envOfC qual scope s0.heap.objs.size f cd) (.ref ea)) (λ_ oC=>dg P w outer H0 s0 E (.ref ea) oC) (λe' oC=>dg P w outer H0 s0 E e' oC) s;have I:=x.inv;have sN:s0.heap.objs.size<=s.heap.objs.size:=I.sz;unfold leaving;refine aq (adZ (base:=base) I.ok.frames I.stack rfl x.held (λpU=>?_) λh1 T1 k1 k2 hT pU=>?_)
 ·refine yS pU λh2 k3 uE=>?_;refine SW (s:=s) x (λb o _ _ n e=>k3 b o n e) (λb o e _ n=>⟨o.slots,k3 b _ n e⟩) ?_ x.ft.1 uE hE;rcases x.ft.2.2.2.1 with y | y
  ·exact absurd (show T∈([]:List Addr) from y) (by simp)
  ·exact y
 ·refine yS pU λh2 k3 uE=>?_;have sJ:∀{b:Addr} {o:Obj},s.heap.get? b=some o->b≠T1:=λe z=>absurd (eK (bJ e) hT) (by rw[z];exact iQ _);refine SW (s:=s) x (λb o z y n e=>k3 b o (sJ e) (k1 b o z y n e)) (λb o e z n=>?_) (cu sN hT) (I.aG.fresh hT) uE hE;refine oE (k2 b o e z n) λsl q=>?_;exact⟨sl,k3 b _ (sJ e) q⟩
end
def aka(wi:TI)(g:TG)(tc:v5)(te:XK->TE)(W:WX)(idx:List Nat)(n:Nat):TE:=λσ H Q=>wi σ H λJ H1=>
 BD J g tc (te (W σ)) (lE idx n σ) H1 λys H2=>ys.length<=aP/\∀p,H2 p=none->Q (.ref p) (upd H2 p (.lst ys))
section
variable{X:Cx}{tg elt iter:Expr}{ifs:List Expr}{wi:TI}{g:TG}{tc:v5}{te:XK->TE}{sc:Scope}{N:List Str}{idx:List Nat}{pos:Pos}{W:WX}
theorem amn{EE:Value->Shared->Prop}(ok:X.Ok):Cx.Ok { X with xe:=EE }:=
 ⟨ok.mod,ok.kind,ok.glob,ok.blt,ok.above,ok.inj,ok.has,ok.uh,ok.hd,ok.frames,ok.vQ,ok.sD,ok.bs,ok.lV,ok.tY,ok.sj,ok.lO,ok.qH⟩
theorem Vl{p_ pl:List (Addr×Obj)}{σ:St}{H H':Hp}{s:Shared}{fp:List Addr}{EE:Value->Shared->Prop}{b:Addr}(I:Inv X p_ σ H s)(hf:∀b∈fp,cV X p_ H b)
  (f:cV (jA X sc N (ky s) H (s.heap.objs.size::fp) (s.heap.push cj).objs.size EE) pl H' b):cV X p_ H' b:=by
 rcases f.2.2.2.1 with z | z
 ·rcases bq.mp z with e | e
  ·exact I.fo (by rw[e];exact aF _) f.1
  ·have q:=hf b e;exact⟨f.1,q.2⟩
 ·have z':(s.heap.push cj).objs.size<=b:=z;rw[m8]at z';exact I.fo li f.1
theorem agd(hs:X.stack=X.env::X.outer)(gf:X.env.frame=some X.env.locals)(hL:LN X W)(hc:X.calm=true)(S:dN X sc N idx)(gk:zx idx.length g)(hi:PI X tg iter wi)
  (hg:∀s H ex C EE,PG (jA X sc N s H ex C EE) tg g) (ht:∀s H ex C EE,zT (jA X sc N s H ex C EE) ifs tc) (he:∀(E0:XK) s H ex C EE,pC (jA X sc N s H ex C EE) (λ_=>E0)->PE (jA X sc N s H ex C EE) elt (te E0))
  (hfo:∀x,HC iter X.env x=pure x:=by intro _;rfl):PE X (.ListComp elt [⟨tg,iter,ifs,0⟩] sc pos) (aka wi g tc te W idx N.length):=by
 intro p_ s σ H Q I h;rw[eval_ListComp];have qU:AQ sc X.env=pure (eD X.env.cells sc.names []):=Ds λp hp e=>I.ok.has p.1 (.inl (S.frees p hp e));refine PV (use:=none) rfl hfo qU S.kind S.locs (aO (hi p_ s σ H _ I h) λv s1 h1=>aO h1 λCi s2 h2=>?_);obtain⟨it,fp,tn,J,H2,aa,I2,T,qJ,f2,hW⟩:=h2;subst aa;have hC:(s2.heap.push cj).objs.size=s2.heap.objs.size+1:=m8 _ _;have fa:cV X p_ H2 s2.heap.objs.size:=I2.fo (aF _) (I2.aG.fresh (aF _));have fC:cV X p_ H2 (s2.heap.push cj).objs.size:=I2.fo (by rw[hC];exact jq _) (I2.aG.fresh (by rw[hC];exact jq _));have ya:X.s₀.heap.objs.size<=s2.heap.objs.size:=I2.sz
 refine JN (EE:=λe s'=>∃pl σ' H' ea c dd tb,e=cb ea/\xu (xT X sc N (ky s2) H2 (s2.heap.objs.size::fp) (s2.heap.push cj).objs.size) pl σ' H' s' ea c dd tb/\W σ c dd H')
  (RR:=λC acc=>compPost (model X.prog X.w) X.A X.xe none (EP X p_ σ Q) acc C) hc S gk (hg _ _ _ _ _) (ht _ _ _ _ _) (he (W σ) _ _ _ _ _ ?_) I2 T qJ f2 hW (λe s' hx=>?_) λs' ys H' m ak n kq I' lX CH wD rv ea=>?_
 ·intro pl σ' H' s' ea c dd tb x hE;exact⟨pl,σ',H',ea,c,dd,tb,rfl,⟨⟨amn x.inv.ok,x.inv.os,x.inv.bare,x.inv.base,x.inv.loc,x.inv.cell,x.inv.free,x.inv.jy,x.inv.pin,x.inv.aG,x.inv.len⟩,x.xR,x.fe,x.ft⟩,hE⟩
 ·obtain⟨pl,σ',H',ea,c,dd,tb,aa,x,hE⟩:=hx;subst aa;have I':Inv X p_ σ H' s':=Tj I2 f2 x.inv;have x2:xu X p_ σ H' s' ea c dd tb:=⟨I',x.xR,Vl I2 f2 x.fe,λT z=>Vl I2 f2 (x.ft T z)⟩;have st:=I'.stack;have fr:=I'.ok.frames;rw[hs]at st fr;have C1:cV X p_ H' (s2.heap.push cj).objs.size:=⟨x.inv.free,fC.2⟩;show wpAny (model X.prog X.w) X.A (uY (.ref ea) (DR sc (eD X.env.cells sc.names []) (s2.heap.push cj).objs.size X.env)) (λ_ oC=>compPost (model X.prog X.w) X.A X.xe none (EP X p_ σ Q) (.ref s2.heap.objs.size) (s2.heap.push cj).objs.size (.error (.ref ea)) oC) _ s';rw[adY (env:=DR sc (eD X.env.cells sc.names []) (s2.heap.push cj).objs.size X.env) (NA:=X.env) rfl];refine IX (base:=X.base) fr st gf x.xR λh1 T1 k1 k2 hT pU=>?_;refine ah x.inv.loc λm hn _=>?_;have qR:s'.heap.Ns (s2.heap.push cj).objs.size m:=hn
  have nC:(s2.heap.push cj).objs.size∉gx (X.env::X.outer):=λz=>by
   rw[show gx (X.env::X.outer)=X.env.locals::X.fs by unfold Cx.fs gx;rw[Dc,gf]]at z;rcases bq.mp z with e | e
   ·exact C1.2.1 e
   ·exact C1.2.2.1 e
  have yg:(s2.heap.push cj).objs.size≠ea:=λz=>x.fe.2.1 z.symm;have nbC:tb≠some (s2.heap.push cj).objs.size:=λz=>(x.ft _ z).2.1 rfl;have nTC:T1≠(s2.heap.push cj).objs.size:=λz=>absurd qR.lt (by rw[<-z];exact Nat.not_lt.mpr hT);refine ar m (qR.at λo e=>k1 _ o nC yg nbC e) λh' sb BV _=>?_;have hd2:pH h' ea c dd T1 (rawInt X.env.locals):=⟨pU.1.keep λo e=>(sb.2 _ (dU yg)).trans e,pU.2.keep λo e=>(sb.2 _ nTC).trans e⟩;refine aeJ (s:={ s' with heap:=h' }) hd2 λh2 yA k3 Aj=>hL p_ σ H' _ ea c dd T1 yA ⟨?_,Aj,x2.fe,I'.fo hT (I'.aG.fresh hT)⟩ hE;have sJ:∀{b:Addr} {o:Obj},s'.heap.get? b=some o->b≠T1:=λe z=>absurd (eK (bJ e) hT) (by rw[z];exact iQ _)
  have ja:∀b∈(s2.heap.push cj).objs.size::ea::tb.toList,cV X p_ H' b:=λb hb=>by
   rcases bq.mp hb with z | z
   ·rw[z];exact C1
   ·rcases bq.mp z with z | z
    ·rw[z];exact x2.fe
    ·cases tb with
     | none=>simp at z
     | some T0=>
      have z':b=T0:=by simpa using z
      rw[z'];exact x2.ft T0 rfl
  have n0:∀{b:Addr},b∉(s2.heap.push cj).objs.size::ea::tb.toList->b≠(s2.heap.push cj).objs.size:=λh z=>h (by rw[z];exact dE);have n1:∀{b:Addr},b∉(s2.heap.push cj).objs.size::ea::tb.toList->b≠ea:=λh z=>h (by rw[z];exact dn _ dE);have n2:∀{b:Addr},b∉(s2.heap.push cj).objs.size::ea::tb.toList->tb≠some b:=λh z=>h (dn _ (dn _ (by rw[z];simp)));have kk:∀b o,b∉gx X.stack->b∉(s2.heap.push cj).objs.size::ea::tb.toList->s'.heap.get? b=some o->h2.get? b=some o:=λb o hb hc e=>k3 b o (sJ e) ((sb.2 b (n0 hc)).trans (k1 b o (by rw[<-hs];exact hb) (n1 hc) (n2 hc) e))
  have ks:∀b o,b∉(s2.heap.push cj).objs.size::ea::tb.toList->s'.heap.get? b=some o->∃sl,h2.get? b=some { o with slots:=sl }:=λb o hc e=>by
   refine oE (k2 b o e (n1 hc) (n2 hc)) λsl q=>?_;exact⟨sl,k3 b _ (sJ e) ((sb.2 b (n0 hc)).trans q)⟩
  exact Inv.call (s:=s') I' (g':=s'.gens) (d':=s'.drawn) (t':=s'.toks) (ch:=(s2.heap.push cj).objs.size::ea::tb.toList)
   ⟨λb o e n hb hx=>kk b o hb hx e,λb o e n hb hx=>ks b o hx e,λ_ _ _ n _=>n,λb o e hx=>let ⟨sl,q⟩:=ks b o hx e;⟨_,q⟩,λ_ _ e=>e,λ_ _ _ e=>e,λb ps e=>⟨#[],by rw[e];simp⟩⟩
   (DB I' (λb hb=>(ja b hb).1) kk) I'.bare λb hb=>⟨(ja b hb).2.2.2.1,(ja b hb).2.1,(ja b hb).2.2.2.2.1,(ja b hb).2.2.2.2.2⟩
 ·have I1:=Inv.adopt (o:=.lst ys) I' wD ya fa.2.1 fa.2.2.2.2.1 fa.2.2.2.2.2 ⟨kq.1,ak,n,rv,ea⟩;refine ar m lX λh' sb=>(dv (.ref s2.heap.objs.size) _ (I1.turned (h':=h') (t':=s'.toks) (it:=(s2.heap.push cj).objs.size) (λb o hb e=>(sb.2 b hb).trans e) ?_ fC.2.1 (.inr (by rw[hC];exact wJ ya)) fC.2.2.2.2.1 fC.2.2.2.2.2) rfl (kq.2 _ wD));rw[aj (by rw[hC];exact Df _)];exact CH
end
abbrev EW(i:Nat)(ts:TS)(D:Ends)(σ:St)(H:Hp)(c:Value)(dd:Option Addr):Prop:=
 ∀ea,H ea=none->ts ⟨λσ2 H2=>D.nx (σ2.set i none) H2,D.rt,λσ2 H2=>D.bk (σ2.set i none) H2,λσ2 H2=>D.ct (σ2.set i none) H2⟩ (σ.set i (some (.ref ea))) (upd H ea (pL ea c dd))
def al5(K:PySem.W.Frag)(c1 c2 c3:Value)(i:Nat)(tb:WX->TS)(t1 t2 t3:TS):TS:=λD σ H=>tb (λσ' c dd H'=>
 (PySem.W.kitCls K c c1=some true/\EW i t1 D σ' H' c dd)\/(PySem.W.kitCls K c c1=some false/\PySem.W.kitCls K c c2=some true/\EW i t2 D σ' H' c dd)\/
 (PySem.W.kitCls K c c1=some false/\PySem.W.kitCls K c c2=some false/\PySem.W.kitCls K c c3=some true/\EW i t3 D σ' H' c dd)) D σ H
section
variable{X:Cx}{body:List Stmt}{a0 b0 d0:Stmt}{as bs ds:List Stmt}{x1 x2 x3 n:Str}{n1 n2 n3 p1 p2 p3 pos:Pos}{tb:WX->TS}{t1 t2 t3:TS}{c1 c2 c3:Value}{i:Nat}
theorem IS{p_:List (Addr×Obj)}{σ:St}{H:Hp}{s:Shared}{h':Heap}{ea T:Addr}{c:Value}{dd:Option Addr}{D:Ends}{b0:Stmt}{bs:List Stmt}{ts:TS}{p:Pos}{E1 E2 E3:Value->Shared->Prop}(hx:X.ex=[])(hN:X.N.Nodup)(hi:X.N[i]?=some n)(hl:X.env.scope.names.lookup n=some .local)
  (I2:Inv X p_ σ H { s with heap:=h' }) (fl:xY h' ea c dd (some T)) (fe:cV X p_ H ea) (fT:cV X p_ H T) (OJ:∀(ea:Addr) (pn:List (Addr×Obj)),eE (X.iZ ea pn) (b0::bs) ts) (hW:EW i ts D σ H c dd) :
  wpAny (model X.prog X.w) (X.A.mark (some (.ref ea))) (AZ (.ref ea) none) (λ_ s1=>wpAny (model X.prog X.w) (X.A.mark (some (.ref ea))) (storeName X.env n (.ref ea)) (λ_ s2=>wpAny (model X.prog X.w) (X.A.mark (some (.ref ea))) (execs (b0::bs) X.env) (λf s3=>wpAny (model X.prog X.w) X.A (do bindName X.env n .none;unbindBehindTheSuite X.env n p) (λ_ s3=>SP X p_ D f s3) X.xe s3) E1 s2) E2 s1) E3 { s with heap:=h' }:=by
 have ok:=I2.ok;refine yS (T:=T) (fl:=.none) ⟨fl.1,fl.2 T rfl⟩ λh3 k3 fl3=>?_;have I4:Inv X p_ σ H { s with heap:=h3 }:=Inv.turned (s:={ s with heap:=h' }) (h':=h3) (t':=s.toks) (it:=T) I2 (λb o hb e=>k3 b o hb e) fT.1 fT.2.1 fT.2.2.2.1 fT.2.2.2.2.1 fT.2.2.2.2.2
 have ya:X.s₀.heap.objs.size<=ea:=by
  rcases fe.2.2.2.1 with z | z
  ·rw[hx]at z;exact absurd z (by simp)
  ·exact z
 have I5:=Inv.adopt (o:=pL ea c dd) I4 fe.1 ya fe.2.1 fe.2.2.2.2.1 fe.2.2.2.2.2 (alh fl3.1);have I6:=I5.iZ ea;refine Jl (X:=X.iZ ea (X.pn++p_)) (v:=.ref ea) I6 hN hi (.inl hl) rfl (λs4 I7=>?_) (.inr hl);refine iA (OJ ea (X.pn++p_) [] s4 _ _ _ I7 (hW ea fe.1)) (λf s5 q=>?_) λ_ _ z=>gA z;cases f with
 | next=>obtain⟨σ',H',J,q⟩:=q;exact D7 (X:=X) (Inv.vc ok J) hN hi hl λs6 J6=>⟨_,_,J6,q⟩
 | brk=>obtain⟨σ',H',J,q⟩:=q;exact D7 (X:=X) (Inv.vc ok J) hN hi hl λs6 J6=>⟨_,_,J6,q⟩
 | cont=>obtain⟨σ',H',J,q⟩:=q;exact D7 (X:=X) (Inv.vc ok J) hN hi hl λs6 J6=>⟨_,_,J6,q⟩
 | ret u=>obtain⟨v,σ',H',J,r,q⟩:=q;exact D7 (X:=X) (Inv.vc ok J) hN hi hl λs6 J6=>⟨v,_,_,J6,r,q⟩
theorem aih(hs:X.stack=X.env::X.outer)(hf:X.env.frame=some X.env.locals)(hx:X.ex=[])(hN:X.N.Nodup)(hi:X.N[i]?=some n)(hl:X.env.scope.names.lookup n=some .local)
  (GN:Gl X x1) (iy:X.mg x1=some c1) (pW:PySem.W.kitCls X.K c1 (.type "BaseException")=some true) (Cv:Gl X x2) (Ag:X.mg x2=some c2) (yw:PySem.W.kitCls X.K c2 (.type "BaseException")=some true)
  (hg3:Gl X x3) (jY:X.mg x3=some c3) (hb3:PySem.W.kitCls X.K c3 (.type "BaseException")=some true)
  (hb:∀(W:WX) (pn:List (Addr×Obj)) (E:Value->Shared->Prop),pC (X.body pn E) W->lM (model X.prog X.w) X.A X.env E->eE (X.body pn E) body (tb W))
  (h1:∀(ea:Addr) (pn:List (Addr×Obj)),eE (X.iZ ea pn) (a0::as) t1) (h2:∀(ea:Addr) (pn:List (Addr×Obj)),eE (X.iZ ea pn) (b0::bs) t2) (h3:∀(ea:Addr) (pn:List (Addr×Obj)),eE (X.iZ ea pn) (d0::ds) t3)
  (pU:(x1 == ("__debug__" : Str))=false:=by decide) (hd2:(x2 == ("__debug__" : Str))=false:=by decide) (Aj:(x3 == ("__debug__" : Str))=false:=by decide) :
  PS X (.Try body [.ExceptHandler (some (.Name x1 n1)) (some n) (a0::as) p1,.ExceptHandler (some (.Name x2 n2)) (some n) (b0::bs) p2,.ExceptHandler (some (.Name x3 n3)) (some n) (d0::ds) p3] [] [] pos) (al5 X.K c1 c2 c3 i tb t1 t2 t3):=by
 intro p_ s σ H D I h;have ok:=I.ok;refine wpAny_Try_except (iA (hb _ (X.pn++p_) _ ?_ aa3 [] s σ H D (I.body _) h) (λf s1 q=>?_) λ_ _ y=>y)
 ·intro pl σ1 H1 s1 ea c dd NY FP hW;have x2':xu X p_ σ1 H1 s1 ea c dd NY:=⟨FP.inv.tL,FP.xR,FP.fe.body,λT z=>(FP.ft T z).body⟩;refine RP hs hf x2' λh' T I2 fl fe fT=>?_;have I3:=I2.iZ ea;refine C7 (C3 (nU (X:=X.iZ ea (X.pn++p_)) I3 GN iy ?_ pU)) (by intro z;cases z);rcases hW with ⟨hk,hW⟩ | ⟨hk,hW⟩ | ⟨hk,hW⟩
  ·refine wV I3.cH fl.1 hk pW (PN ?_);exact IS hx hN hi hl I2 fl fe fT h1 hW
  ·refine wV I3.cH fl.1 hk pW ?_;refine C7 (C3 (nU (X:=X.iZ ea (X.pn++p_)) I3 Cv Ag ?_ hd2)) (by intro z;cases z);refine wV I3.cH fl.1 hW.1 yw (PN ?_);exact IS hx hN hi hl I2 fl fe fT h2 hW.2
  ·refine wV I3.cH fl.1 hk pW ?_;refine C7 (C3 (nU (X:=X.iZ ea (X.pn++p_)) I3 Cv Ag ?_ hd2)) (by intro z;cases z);refine wV I3.cH fl.1 hW.1 yw ?_;refine C7 (C3 (nU (X:=X.iZ ea (X.pn++p_)) I3 hg3 jY ?_ Aj)) (by intro z;cases z);refine wV I3.cH fl.1 hW.2.1 hb3 (PN ?_);exact IS hx hN hi hl I2 fl fe fT h3 hW.2.2
 ·have q':=SP.tL q;cases f with
  | next=>exact AD q'
  | brk=>exact q'
  | cont=>exact q'
  | ret u=>exact q'
end
end L2
namespace L2
open PySem PySem.Spec PyProof.Rows
section
variable{X:Cx}
def VH(K:W.Frag):R2:=λx y H Q=>∃a b xs ys,x=.ref a/\y=.ref b/\aE K H a xs/\aE K H b ys/\xs.length+ys.length<=aP/\
 (xs=[]->Q (.ref b) H)/\(xs≠[]->ys=[]->Q (.ref a) H)/\(xs≠[]->ys≠[]->∀p,H p=none->Q (.ref p) (upd H p (.tup (xs++ys))))
theorem D3(K:W.Frag)(hK:X.K=K:=by rfl):eG X (qe .Add) (VH K):=by
 subst hK;intro p_ s σ H x y v u Q I rx ry h;refine ph h λa b xs ys aa bc=>?_;clear h;subst aa;obtain⟨rfl,ha,hb,hz,q0,q1,q2⟩:=bc
 by_cases hx:xs=[]
 ·cases rx;cases ry;refine aL (I.tuple ha) λak r1 p1 _=>?_;refine aL (I.tuple hb) λnB r2 p2 _=>?_;have hi:ak=[]:=r1.D4.mpr hx;refine aL (id p1) λaa ho hc bc=>?_;obtain⟨cls,dd,data,sl⟩:=aa;obtain⟨n,hd⟩:=bc;refine aL (id p2) λaa yq qV bc=>?_;obtain⟨apv,Hd,data2,FU⟩:=aa;obtain⟨n2,hd2⟩:=bc;simp only at hc hd qV hd2;subst hc hd qV hd2
  exact QK ⟨_,ho,rfl⟩ ⟨_,yq,rfl⟩ Qi Qz PySem.F.slot_tuple_add PySem.F.entry_tuple_add (PySem.F.args_tuple_add_2 _ _)
   (tuple_addW0 a b ak.toArray nB.toArray n n2 dd Hd sl FU (by simp[hi])) ⟨ho,yq,⟨.ref b,H,I,rfl,q0 hx⟩⟩
 ·exact aio p_ s σ H _ _ v u Q I rx ry (⟨a,b,xs,ys,rfl,rfl,ha,hb,hx,hz,(q1 hx),(q2 hx)⟩)
theorem D'{K:W.Frag}{H:Hp}{a b:Addr}{xs ys:List V}{Q:VK}(ha:H a=some (.tup xs))(hb:H b=some (.tup ys))(hz:xs.length+ys.length<=1000)(q:∀p H',af H H'->H' p=some (.tup (xs++ys))->Q (.ref p) H'):VH K (.ref a) (.ref b) H Q:=by
 refine⟨a,b,xs,ys,rfl,rfl,(aE.of ha),(aE.of hb),(cO (c9 hz)),(λe=>?_),(λ_ e=>?_),(λ_ _ p hp=>?_)⟩
 ·exact q b H (af.refl H) (by rw[e];exact hb)
 ·exact q a H (af.refl H) (by rw[e,sY];exact ha)
 ·exact q p _ (λb u e=>by rw[aj (λz=>by rw[z,hp]at e;cases e)];exact e) au
theorem Ee{K:W.Frag}{H:Hp}{a:Addr}{xs:List V}{lo hi:Option Int}{Q:VK}(ha:H a=some (.tup xs))(q:∀p H',af H H'->H' p=some (.tup (jT xs lo hi))->Q (.ref p) H'):VF K (.ref a) lo hi H Q:=by
 refine qi a xs rfl (aE.of ha) (λh=>q a H (af.refl H) ?_) λ_ p hp=>q p _ (λb u e=>by rw[aj (λz=>by rw[z,hp]at e;cases e)];exact e) au;rw[ha];unfold jT;rw[h.1,h.2,HV,QP,HJ]
theorem Vk(xs:List V)(k:Nat):jT xs none (some (k:Int))=xs.take k:=by
 unfold jT;rw[HT.Jz,HT.Km,HV,QP]
 by_cases h:k<=xs.length
 ·rw[AE h]
 ·rw[Qj om,HJ,iE om]
theorem Ti(xs:List V)(k:Nat):jT xs (some (k:Int)) none=xs.drop k:=by
 unfold jT;rw[HT.Jz,HT.Km]
 by_cases h:k<=xs.length
 ·rw[AE h,iE (by rw[wL];exact aF _)]
 ·rw[Qj om,List.drop_length,aay om];simp
end
end L2
namespace TL
open PySem PySem.Spec PyProof.Rows PySem.SeqAt L2 L3 L4
variable{P:Program}{w:World}{K:PySem.W.Frag}{mg:Str->Option Value}{base:Heap}
def tv(t:Tl):List V:=.str t.1::t.2.map λ(n:Nat)=>V.int (n:Int)
def jO(H:Hp)(v:V)(t:Tl):Prop:=∃a,v=.ref a/\H a=some (.tup (tv t))
def IsPart(H:Hp)(v:V)(p:Pt):Prop:=∃a vs,v=.ref a/\H a=some (.tup vs)/\Paired (jO H) vs p
def qm(H:Hp)(v:V)(ps:List Pt):Prop:=∃a vs,v=.ref a/\H a=some (.tup vs)/\Paired (IsPart H) vs ps
theorem jO.keep{H H':Hp}{v:V}{t:Tl}(k:∀b xs,H b=some (.tup xs)->H' b=some (.tup xs))(h:jO H v t):jO H' v t:=by
 refine ah h λa e h=>?_;exact ar a e (k _ _ h)
theorem IsPart.keep{H H':Hp}{v:V}{p:Pt}(k:∀b xs,H b=some (.tup xs)->H' b=some (.tup xs))(h:IsPart H v p):IsPart H' v p:=by
 refine cG h λa vs e h r=>?_;exact dv a vs e (k _ _ h) (Paired.b8 r λ_ _ q=>q.keep k)
theorem qm.keep{H H':Hp}{v:V}{p:List Pt}(k:∀b xs,H b=some (.tup xs)->H' b=some (.tup xs))(h:qm H v p):qm H' v p:=by
 refine cG h λa vs e h r=>?_;exact dv a vs e (k _ _ h) (Paired.b8 r λ_ _ q=>q.keep k)
def MM(b:Bool):Sp:=λvs H Q _=>∃a,vs=[.ref a]/\Q (.bl b) H
theorem ah5:bg ["self"] ["self"] (aQ Ei):=bu
theorem adL:bg ["self"] ["self"] (aQ Dx):=bu
theorem adg:bg ["self"] ["self"] (aQ Dr):=bu
theorem A9{f:Addr}{fd:aV}(F:aW K "empties" "Step.empties" Ei f fd):aw P w K mg base az 1 f fd ["self"] (MM false):=by
 refine F.ok ah5 (λvs H Q E h=>?_) λaI A _ s H vs Q E hr h=>?_
 ·refine ah h λa aa _=>?_;clear h;subst aa;rfl
 ·refine ah h λa aa k=>?_;clear h;subst aa;exact nE (aB (a8 kG)) k
theorem adh{f:Addr}{fd:aV}(F:aW K "empties" "Swap.empties" Dx f fd):aw P w K mg base az 1 f fd ["self"] (MM true):=by
 refine F.ok adL (λvs H Q E h=>?_) λaI A _ s H vs Q E hr h=>?_
 ·refine ah h λa aa _=>?_;clear h;subst aa;rfl
 ·refine ah h λa aa k=>?_;clear h;subst aa;exact nE (aB (a8 kG)) k
theorem acJ{f:Addr}{fd:aV}(F:aW K "empties" "Clear.empties" Dr f fd):aw P w K mg base az 1 f fd ["self"] (MM true):=by
 refine F.ok adg (λvs H Q E h=>?_) λaI A _ s H vs Q E hr h=>?_
 ·refine ah h λa aa _=>?_;clear h;subst aa;rfl
 ·refine ah h λa aa k=>?_;clear h;subst aa;exact nE (aB (a8 kG)) k
structure C6(K:W.Frag)(c:Addr)(t:aZ)(NC NF NB MH MF MG:Bool):Prop where
 cl:W.findIn K (.ref c) "__class__" = some (some (.builtin "object.__class__"))
 mr:W.mroIn K c (.type "object")=some true
 an7:W.kitOne K (.ref c) (.ref t.lP)=some NC
 an8:W.kitOne K (.ref c) (.ref t.lQ)=some NF
 an6:W.kitOne K (.ref c) (.ref t.kI)=some NB
 amr:W.kitOne K (.ref c) (.ref t.lB)=some MH
 amq:W.kitOne K (.ref c) (.ref t.lA)=some MF
 vv:W.kitOne K (.ref c) (.ref t.gq)=some MG
structure nJ where
 (zQ V6 V7:Addr)
 (MX LD LF:aV)
structure zH(K:W.Frag)(mg:Str->Option Value)(t:aZ)(u:nJ):Prop where
 st:qk K mg t
 BK:aW K "empties" "Step.empties" Ei u.zQ u.MX
 xV:Binds K u.MX ["self"] []
 ak8:aW K "empties" "Swap.empties" Dx u.V6 u.LD
 My:Binds K u.LD ["self"] []
 alb:aW K "empties" "Clear.empties" Dr u.V7 u.LF
 Mz:Binds K u.LF ["self"] []
 gt:W.specialIn K (.builtin "object.__class__") "__get__" = some (some (.builtin "getset_descriptor.__get__"))
 tk:W.takesIn K (.builtin "object.__class__")=some true
 amM:Meth K t.lP "empties" u.zQ
 amN:Meth K t.lQ "empties" u.zQ
 amL:Meth K t.kI "empties" u.zQ
 alo:Meth K t.lB "empties" u.zQ
 alm:Meth K t.lA "empties" u.V6
 ajO:Meth K t.rW "empties" u.V7
 aln:Meth K t.gq "empties" u.zQ
 zD:C6 K t.lP t true false false false false false
 zE:C6 K t.lQ t false true false false false false
 zC:C6 K t.kI t false false true false false false
 zv:C6 K t.lB t false false false true false false
 zt:C6 K t.lA t false false false false true false
 zo:C6 K t.rW t false false false false false false
 zu:C6 K t.gq t false false false false false true
def r9(t:aZ)(H:Hp)(v:V)(s:Tl):Prop:=∃z a dx,v=.ref z/\H z=some (.ins (cZ t s.1) dx (eM (.ref a) s.1 (s.2.map λ(n:Nat)=>V.int (n:Int))))
theorem r9.keep{t:aZ}{H H':Hp}{v:V}{s:Tl}(k:∀b C dx fs,H b=some (.ins C dx fs)->v=.ref b->H' b=some (.ins C dx fs))(h:r9 t H v s):r9 t H' v s:=by
 refine eV h λz a dx e1 h=>?_;exact⟨z,a,dx,e1,(k _ _ _ _ h e1)⟩
theorem xj(m:Str)(h:∀f∈(["number","reg","parts","other","name","place"]:List Str),m≠f)(v:V)(x:Str)(ps:List V):(eM v x ps).lookup m=none:=by
 have h1:=h "number" (by simp);have h2:=h "reg" (by simp);have h3:=h "parts" (by simp);have h4:=h "other" (by simp);have h5:=h "name" (by simp);have h6:=h "place" (by simp);unfold eM
 repeat (first | (split;(simp only[eP,if_neg h1,if_neg h2,if_neg h3,if_neg h4,if_neg h5,if_neg h6];rfl)) | (simp only[eP,if_neg h1,if_neg h2,if_neg h3,if_neg h4,if_neg h5,if_neg h6];rfl))
def rY(s:Tl):Bool:=decide (s.1 = "swap")||decide (s.1 = "clear")
theorem KC(t:aZ):cZ t "put" = t.lP:=by unfold cZ;rw[if_pos rfl]
theorem agO(ns:List Nat):rY ("put",ns)=false:=by show (decide (("put" : Str) = "swap")||decide (("put" : Str) = "clear"))=_;decide +kernel
theorem KD(t:aZ):cZ t "add" = t.lQ:=by unfold cZ;rw[if_neg dk,if_pos rfl]
theorem agP(ns:List Nat):rY ("add",ns)=false:=by show (decide (("add" : Str) = "swap")||decide (("add" : Str) = "clear"))=_;decide +kernel
theorem KA(t:aZ):cZ t "set" = t.kI:=by unfold cZ;rw[if_neg dk,if_neg dk,if_pos rfl]
theorem agN(ns:List Nat):rY ("set",ns)=false:=by show (decide (("set" : Str) = "swap")||decide (("set" : Str) = "clear"))=_;decide +kernel
theorem JQ(t:aZ):cZ t "look" = t.lB:=by unfold cZ;rw[if_neg dk,if_neg dk,if_neg dk,if_pos rfl]
theorem ae2(ns:List Nat):rY ("look",ns)=false:=by show (decide (("look" : Str) = "swap")||decide (("look" : Str) = "clear"))=_;decide +kernel
theorem JO(t:aZ):cZ t "swap" = t.lA:=by unfold cZ;rw[if_neg dk,if_neg dk,if_neg dk,if_neg dk,if_pos rfl]
theorem ae0(ns:List Nat):rY ("swap",ns)=true:=by show (decide (("swap" : Str) = "swap")||decide (("swap" : Str) = "clear"))=_;decide +kernel
theorem Se(t:aZ):cZ t "clear" = t.rW:=by unfold cZ;rw[if_neg dk,if_neg dk,if_neg dk,if_neg dk,if_neg dk,if_pos rfl]
theorem ad5(ns:List Nat):rY ("clear",ns)=true:=by show (decide (("clear" : Str) = "swap")||decide (("clear" : Str) = "clear"))=_;decide +kernel
theorem JP(t:aZ):cZ t "skip" = t.gq:=by unfold cZ;rw[if_neg dk,if_neg dk,if_neg dk,if_neg dk,if_neg dk,if_neg dk]
theorem ae1(ns:List Nat):rY ("skip",ns)=false:=by show (decide (("skip" : Str) = "swap")||decide (("skip" : Str) = "clear"))=_;decide +kernel
theorem alk{t:aZ}{u:nJ}(T:zH K mg t u){z a dx:Addr}{H:Hp}{s:Tl}{sz:Nat}(g:di sz s)(hz:H z=some (.ins (cZ t s.1) dx (eM (.ref a) s.1 (s.2.map λ(n:Nat)=>V.int (n:Int))))) :
  ∃C f fd pn sp,H z=some (.ins C dx (eM (.ref a) s.1 (s.2.map λ(n:Nat)=>V.int (n:Int))))/\eh K C/\Meth K C "empties" f/\aw P w K mg base az 1 f fd pn sp/\Binds K fd pn []/\∀(Q:VK) (E:XK),Q (.bl (rY s)) H->sp [.ref z] H Q E:=by
 cases g with
 | put r m h1 h2=>
  rw[agO];have hz:H z=some (.ins (cZ t "put") dx _):=hz;rw[KC]at hz;exact oW _ _ _ _ _ hz T.st.vy T.amM (A9 T.BK) T.xV λQ E q=>⟨z,rfl,q⟩
 | add r m h1 h2=>
  rw[agP];have hz:H z=some (.ins (cZ t "add") dx _):=hz;rw[KD]at hz;exact oW _ _ _ _ _ hz T.st.tV T.amN (A9 T.BK) T.xV λQ E q=>⟨z,rfl,q⟩
 | set r m h1 h2=>
  rw[agN];have hz:H z=some (.ins (cZ t "set") dx _):=hz;rw[KA]at hz;exact oW _ _ _ _ _ hz T.st.r6 T.amL (A9 T.BK) T.xV λQ E q=>⟨z,rfl,q⟩
 | look r m h1 h2=>
  rw[ae2];have hz:H z=some (.ins (cZ t "look") dx _):=hz;rw[JQ]at hz;exact oW _ _ _ _ _ hz T.st.rV T.alo (A9 T.BK) T.xV λQ E q=>⟨z,rfl,q⟩
 | swap r m h1 h2=>
  rw[ae0];have hz:H z=some (.ins (cZ t "swap") dx _):=hz;rw[JO]at hz;exact oW _ _ _ _ _ hz T.st.qj T.alm (adh T.ak8) T.My λQ E q=>⟨z,rfl,q⟩
 | clear=>
  rw[ad5];have hz:H z=some (.ins (cZ t "clear") dx _):=hz;rw[Se]at hz;exact oW _ _ _ _ _ hz T.st.ze T.ajO (acJ T.alb) T.Mz λQ E q=>⟨z,rfl,q⟩
 | skip r m h1 h2 h3=>
  rw[ae1];have hz:H z=some (.ins (cZ t "skip") dx _):=hz;rw[JP]at hz;exact oW _ _ _ _ _ hz T.st.tQ T.aln (A9 T.BK) T.xV λQ E q=>⟨z,rfl,q⟩
theorem U'{t:aZ}{u:nJ}(T:zH K mg t u){z a dx:Addr}{H:Hp}{s:Tl}{sz:Nat}(g:di sz s)(hz:H z=some (.ins (cZ t s.1) dx (eM (.ref a) s.1 (s.2.map λ(n:Nat)=>V.int (n:Int))))) :
  ∃C:Addr,iC K H (.ref z) (.ref C)/\C6 K C t (decide (s.1 = "put")) (decide (s.1 = "add")) (decide (s.1 = "set")) (decide (s.1 = "look")) (decide (s.1 = "swap")) (decide (s.1 = "skip")):=by
 cases g with
 | put r m h1 h2=>
  have hz:H z=some (.ins (cZ t "put") dx _):=hz;rw[KC]at hz;exact ar _ (iC.ins hz T.st.vy T.zD.cl T.gt T.tk T.zD.mr) T.zD
 | add r m h1 h2=>
  have hz:H z=some (.ins (cZ t "add") dx _):=hz;rw[KD]at hz;exact ar _ (iC.ins hz T.st.tV T.zE.cl T.gt T.tk T.zE.mr) T.zE
 | set r m h1 h2=>
  have hz:H z=some (.ins (cZ t "set") dx _):=hz;rw[KA]at hz;exact ar _ (iC.ins hz T.st.r6 T.zC.cl T.gt T.tk T.zC.mr) T.zC
 | look r m h1 h2=>
  have hz:H z=some (.ins (cZ t "look") dx _):=hz;rw[JQ]at hz;exact ar _ (iC.ins hz T.st.rV T.zv.cl T.gt T.tk T.zv.mr) T.zv
 | swap r m h1 h2=>
  have hz:H z=some (.ins (cZ t "swap") dx _):=hz;rw[JO]at hz;exact ar _ (iC.ins hz T.st.qj T.zt.cl T.gt T.tk T.zt.mr) T.zt
 | clear=>
  have hz:H z=some (.ins (cZ t "clear") dx _):=hz;rw[Se]at hz;exact ar _ (iC.ins hz T.st.ze T.zo.cl T.gt T.tk T.zo.mr) T.zo
 | skip r m h1 h2 h3=>
  have hz:H z=some (.ins (cZ t "skip") dx _):=hz;rw[JP]at hz;exact ar _ (iC.ins hz T.st.tQ T.zu.cl T.gt T.tk T.zu.mr) T.zu
structure Act where
 (k:Str) (c n:Nat) (got gave seen:Option Int)
def oV:Option Int->V
 | none=>.aJ
 | some i=>.int i
def aoj(a:Act):List V:=[.str a.k,.int (a.c:Nat),.int (a.n:Nat),oV a.got,oV a.gave,oV a.seen]
def vC(H:Hp)(v:V)(a:Act):Prop:=∃p,v=.ref p/\H p=some (.tup (aoj a))
structure Ck where
 (pl ct:Nat) (rg:List Int) (tn:Int) (es:List Ent)
structure Mc where
 (kd:Str) (ps:List Pt) (ck:List Ck) (bd:List Int) (ac:List Act) (ov:List (List Int))
structure MA where
 (lt:Addr) (ts:List (Addr×Addr×List Addr)) (pg st pl ct rg:Addr) (rs:List Addr) (ce ac cm:Addr) (cs:List Addr)
def jv:List Str:=["at_end","may_do","carries","moves","do","do_step","do_set","do_look","do_swap","carry","come","on_board","settle","ended","where","steps_done","registers","waiting","board","deeds","deeds_done","deed_at","over","twin"]
structure vG(fs:List (Str×V))(A:MA)(S:Mc):Prop where
 fh:fs.lookup ("trays" : Str)=some (.ref A.lt)
 program:fs.lookup ("program" : Str)=some (.ref A.pg)
 kind:fs.lookup ("kind" : Str)=some (.str S.kd)
 steps:fs.lookup ("steps" : Str)=some (.ref A.st)
 places:fs.lookup ("places" : Str)=some (.ref A.pl)
 counts:fs.lookup ("counts" : Str)=some (.ref A.ct)
 dJ:fs.lookup ("regs" : Str)=some (.ref A.rg)
 cells:fs.lookup ("cells" : Str)=some (.ref A.ce)
 iB:fs.lookup ("acts" : Str)=some (.ref A.ac)
 jN:fs.lookup ("comers" : Str)=some (.ref A.cm)
 ms:∀m∈jv,fs.lookup m=none
 vX:fs.length<=20
abbrev FG(CT:Addr)(kd:Str)(H:Hp)(x:Addr×Addr×List Addr)(k:Ck):Prop:=c7 H x.1 CT kd k.tn k.es x.2.1 x.2.2
def zf(t:aZ)(H:Hp)(v:V)(p:Pt):Prop:=∃b us,v=.ref b/\H b=some (.tup us)/\Paired (r9 t H) us p
structure aU(t:aZ)(C CT:Addr)(H:Hp)(m:Addr)(A:MA)(S:Mc):Prop where
 obj:∃dx fs,H m=some (.ins C dx fs)/\vG fs A S
 lt:H A.lt=some (.lst (A.ts.map λx=>V.ref x.1))
 ts:Paired (FG CT S.kd H) A.ts S.ck
 pg:qm H (.ref A.pg) S.ps
 st:∃vs,H A.st=some (.tup vs)/\Paired (zf t H) vs S.ps
 pl:H A.pl=some (.lst (S.ck.map λk=>V.int (k.pl:Nat)))
 ct:H A.ct=some (.lst (S.ck.map λk=>V.int (k.ct:Nat)))
 rg:H A.rg=some (.lst (A.rs.map V.ref))
 rs:Paired (λa (k:Ck)=>H a=some (.lst (k.rg.map V.int))) A.rs S.ck
 ce:H A.ce=some (.lst (S.bd.map V.int))
 ac:∃vs,H A.ac=some (.lst vs)/\Paired (vC H) vs S.ac
 cm:H A.cm=some (.lst (A.cs.map V.ref))
 cs:Paired (λa (o:List Int)=>H a=some (.lst (o.map V.int))) A.cs S.ov
structure jk(lab:Addr->Nat)(m:Addr)(A:MA):Prop where
 m:lab m=2
 lt:lab A.lt=4
 pl:lab A.pl=6
 ct:lab A.ct=8
 rg:lab A.rg=10
 ce:lab A.ce=12
 ac:lab A.ac=14
 cm:lab A.cm=16
 rs:∀i a,A.rs[i]?=some a->lab a=24+6*i
 cs:∀i a,A.cs[i]?=some a->lab a=26+6*i
 ts:∀i x,A.ts[i]?=some x->∀b∈x.1::x.2.1::x.2.2,lab b=28+6*i
inductive bG (m:Addr) (A:MA):Addr->Prop
 | m:bG m A m
 | lt:bG m A A.lt
 | pl:bG m A A.pl
 | ct:bG m A A.ct
 | rg:bG m A A.rg
 | ce:bG m A A.ce
 | ac:bG m A A.ac
 | cm:bG m A A.cm
 | rs {a:Addr}:a∈A.rs->bG m A a
 | cs {a:Addr}:a∈A.cs->bG m A a
 | ts {x:Addr×Addr×List Addr} {b:Addr}:x∈A.ts->b∈x.1::x.2.1::x.2.2->bG m A b
structure aM(F:Addr->Prop)(H H':Hp):Prop where
 k:∀b o,¬F b->(∀ps,o≠.eZ ps)->H b=some o->H' b=some o
 t:∀b,H' b=none->H b=none
theorem aM.of{F:Addr->Prop}{H H':Hp}(s:af H H'):aM F H H':=⟨λb o _ _ e=>s b o e,λb h=>s.free h⟩
theorem aM.refl{F:Addr->Prop}(H:Hp):aM F H H:=⟨λ_ _ _ _ e=>e,λ_ h=>h⟩
theorem aM.trans{F:Addr->Prop}{H H1 H2:Hp}(a:aM F H H1)(b:aM F H1 H2):aM F H H2:=⟨λc o h1 h2 e=>b.k c o h1 h2 (a.k c o h1 h2 e),λc h=>a.t c (b.t c h)⟩
theorem aM.mono{F G:Addr->Prop}{H H':Hp}(a:aM F H H')(h:∀b,F b->G b):aM G H H':=⟨λc o h1 h2 e=>a.k c o (λz=>h1 (h c z)) h2 e,a.t⟩
theorem aM.NP{F:List Addr}{G:Addr->Prop}{H H':Hp}(a:gF F H H')(h:∀b∈F,G b):aM G H H':=⟨λc o h1 h2 e=>a.k c o (λz=>h1 (h c z)) h2 e,a.t⟩
theorem aM.upd{F:Addr->Prop}{H:Hp}{x:Addr}{o:HO}(h:F x):aM F H (upd H x o):=⟨λb q n _ e=>by rw[aj λz=>n (by rw[z];exact h)];exact e,λb e=>by
 by_cases z:b=x
 ·rw[z,au]at e;cases e
 ·rwa[aj z]at e⟩
theorem gF.ofA{H H':Hp}{a C q:Addr}{kd:Str}{tn:Int}{es:List Ent}{qr:List Addr}(k:EO (a::q::qr) H H')(T:c7 H' a C kd tn es q qr):gF (a::q::qr) H H':=
 ⟨λc o h1 _ e=>k c o h1 e,λc h=>by
  by_cases z:c∈a::q::qr
  ·refine oE (T.there c z) λo e=>?_;rw[e]at h;cases h
  ·cases e:H c with
   | none=>rfl
   | some o=>rw[k c o z e]at h;cases h⟩
def gL:Addr->Prop:=λ_=>False
theorem gh{α β:Type}{F:α->β->Prop}{G:α->β->Prop}:∀{l:List α} {r:List β},Paired F l r->(∀(i:Nat) a b,l[i]?=some a->r[i]?=some b->F a b->G a b)->Paired G l r
 | _,_,.nil,_=>.nil
 | _,_,.cons h t,k=>.cons (k 0 _ _ rfl rfl h) (gh t λi a b e1 e2 q=>k (i+1) a b (by simpa using e1) (by simpa using e2) q)
theorem zf.keep{t:aZ}{H H':Hp}{v:V}{p:Pt}(kt:∀b xs,H b=some (.tup xs)->H' b=some (.tup xs))(ki:∀b C dx fs,H b=some (.ins C dx fs)->(∃x ps v,C=cZ t x/\fs=eM v x ps)->H' b=some (.ins C dx fs))(h:zf t H v p):zf t H' v p:=by
 refine cG h λb us e h1 h2=>?_;refine dv b us e (kt _ _ h1) (Paired.b8 h2 λv s q=>?_);refine eV q λz a dx e1 q=>?_;exact⟨z,a,dx,e1,(ki _ _ _ _ q (sv _ _ (ar _ rfl rfl)))⟩
theorem vC.keep{H H':Hp}{v:V}{a:Act}(k:∀b xs,H b=some (.tup xs)->H' b=some (.tup xs))(h:vC H v a):vC H' v a:=by
 refine ah h λp e h=>?_;exact ar p e (k _ _ h)
theorem tm{α β:Type}{F:α->β->Prop}:∀{l:List α} {r:List β} {i:Nat} {y:β},Paired F l r->r[i]?=some y->∃x,l[i]?=some x/\F x y
 | _,_,_,_,.nil,e=>by simp at e
 | _,_,0,_,.cons h _,e=>by simp at e;subst e;exact⟨_,rfl,h⟩
 | _,_,i+1,x,.cons _ t,e=>by
  refine ah (tm (i:=i) t (by simpa using e)) λy h1 h2=>?_;exact ar y (by simpa using h1) h2
theorem Iw{α β:Type}{F:α->β->Prop}{l':List α}{r':List β}(h':Paired F l' r'):∀{l:List α} {r:List β},Paired F l r->Paired F (l++l') (r++r')
 | _,_,.nil=>h'
 | _,_,.cons g t=>.cons g (Iw h' t)
theorem lK{α β:Type}{F:α->β->Prop}:∀{l:List α} {m:List β} {b:α},Paired F l m->b∈l->∃y,y∈m/\F b y
 | _,_,_,.nil,h=>by simp at h
 | _,_,_,.cons h t,e=>by
  rcases bq.mp e with z | z
  ·subst z;exact⟨_,by simp,h⟩
  ·refine ah (lK t z) λy hy q=>?_;exact ar y (dn _ hy) q
theorem aU.keep{t:aZ}{C CT:Addr}{H H':Hp}{m:Addr}{A:MA}{S:Mc}(M:aU t C CT H m A S)(k:∀b,bG m A b->∀o,H b=some o->H' b=some o)(kt:∀b xs,H b=some (.tup xs)->H' b=some (.tup xs))(ki:∀b C dx fs,H b=some (.ins C dx fs)->H' b=some (.ins C dx fs)):aU t C CT H' m A S:=by
 obtain⟨⟨dx,fs,h1,h2⟩,lt,ts,pg,⟨vs,s1,s2⟩,pl,ct,rg,rs,ce,⟨us,a1,a2⟩,cm,cs⟩:=M;refine⟨⟨dx,fs,k _ .m _ h1,h2⟩,k _ .lt _ lt,?_,pg.keep kt,⟨vs,kt _ _ s1,Paired.b8 s2 λ_ _ q=>q.keep kt λb C dx fs e _=>ki b C dx fs e⟩,k _ .pl _ pl,k _ .ct _ ct,k _ .rg _ rg,?_,k _ .ce _ ce,⟨us,k _ .ac _ a1,Paired.b8 a2 λ_ _ q=>q.keep kt⟩,k _ .cm _ cm,?_⟩
 ·exact gh ts λi x c hx _ q=>q.keep (λb hb o e=>k b (.ts (cQ hx) hb) o e) kt
 ·exact gh rs λi x c hx _ q=>k x (.rs (cQ hx)) _ q
 ·exact gh cs λi x c hx _ q=>k x (.cs (cQ hx)) _ q
theorem aU.V4{t:aZ}{C CT:Addr}{H H':Hp}{m:Addr}{A:MA}{S:Mc}{F:Addr->Prop}(M:aU t C CT H m A S)(k:aM F H H')(hF:∀b,F b->¬bG m A b/\∀o,H b=some o->∃xs,o=.lst xs):aU t C CT H' m A S:=by
 have nt:∀b o,bG m A b->H b=some o->∀ps,o≠.eZ ps:=by
  intro b o hb e ps z;subst z;cases hb with
  | m=>obtain⟨dx,fs,h,_⟩:=M.obj;rw[h]at e;cases e
  | lt=>rw[M.lt]at e;cases e
  | pl=>rw[M.pl]at e;cases e
  | ct=>rw[M.ct]at e;cases e
  | rg=>rw[M.rg]at e;cases e
  | ce=>rw[M.ce]at e;cases e
  | ac=>obtain⟨vs,h,_⟩:=M.ac;rw[h]at e;cases e
  | cm=>rw[M.cm]at e;cases e
  | rs h=>
   refine ah (lK M.rs h) λc _ q=>?_;rw[q]at e;cases e
  | cs h=>
   refine ah (lK M.cs h) λc _ q=>?_;rw[q]at e;cases e
  | ts h h2=>
   refine ah (lK M.ts h) λc _ q=>?_;rcases q.kinds _ h2 _ e with ⟨_,_,_,z⟩ | ⟨_,z⟩ <;> cases z
 refine M.keep (λb hb o e=>k.k b o (λz=>(hF b z).1 hb) (nt b o hb e) e) (λb xs e=>k.k b _ (λz=>?_) (λps z=>by cases z) e) λb C dx fs e=>k.k b _ (λz=>?_) (λps z=>by cases z) e
 ·refine oE ((hF b z).2 _ e) λys q=>?_;cases q
 ·refine oE ((hF b z).2 _ e) λys q=>?_;cases q
theorem aU.same{t:aZ}{C CT:Addr}{H H':Hp}{m:Addr}{A:MA}{S:Mc}(M:aU t C CT H m A S)(s:af H H'):aU t C CT H' m A S:=M.keep (λb _ o e=>s b o e) (λb xs e=>s b _ e) λb C dx fs e=>s b _ e
theorem aU.gm{t:aZ}{C CT:Addr}{H H':Hp}{m:Addr}{A:MA}{S:Mc}(M:aU t C CT H m A S)(k:aM gL H H'):aU t C CT H' m A S:=M.V4 k λb z=>z.elim
theorem ip{a b c m:Nat}(l:a<b:=by decide):a≠b+m*c:=λh=>iQ a (eK l (h ▸ HI b (m*c)))
theorem pK{a b c m:Nat}(l:a<b:=by decide):b+m*c≠a:=λe=>ip (l:=l) e.symm
theorem vV{a b i c m:Nat}(l:a%m≠b%m:=by decide):a+m*i≠b+m*c:=λh=>l (by rw[<-aap a m i,h,aap])
theorem vU{a b i c:Nat}(h:i≠c:=by with_reducible assumption):a+(b+1)*i≠a+(b+1)*c:=λe=>h (Nat.eq_of_mul_eq_mul_left (QN b) (Nat.add_left_cancel e))
theorem fZ{a b:Nat}(n:a≠b:=by decide):a≠b:=n
theorem bQ{p q a b:Nat}(e1:p=a)(e2:q=b)(n:a≠b):p≠q:=λh=>n (e1.symm.trans (h.trans e2))
theorem qD{p q a:Nat}(e1:p=a)(n:a≠q):p≠q:=λh=>n (e1.symm.trans h)
theorem bN{lab:Addr->Nat}{a b:Addr}(h:lab a≠lab b):a≠b:=λe=>h (by rw[e])
theorem yQ{α β:Type}{f:α->β}{r:List α}{c:Nat}{k k':α}(h:r[c]?=some k)(e:f k'=f k):(r.set c k').map f=r.map f:=by
 rw[Dn,e];refine oE (eJ.mp h) λhc hk=>?_;rw[<-hk]
 exact List.ext_getElem? λi=>by
  rw[List.getElem?_set]
  split
  ·rename_i hi
   subst hi
   split
   ·rw[fw,bb hc];rfl
   ·rename_i hn;rw[aX]at hn;exact absurd hc hn
  ·rfl
theorem wU{α β:Type}{F:α->β->Prop}{b':β}:∀{l:List α} {r:List β} {c:Nat} {b:β},Paired F l r->r[c]?=some b->(∀a,l[c]?=some a->F a b->F a b')->Paired F l (r.set c b')
 | _,_,_,_,.nil,_,_=>.nil
 | _,_,0,b,.cons h t,e,k=>by
  simp only[List.getElem?_cons_zero,HD]at e;subst e;exact .cons (k _ rfl h) t
 | _,_,c+1,b,.cons h t,e,k=>by
  rw[List.getElem?_cons_succ]at e;exact .cons h (wU t e λa ha=>k a (by simpa using ha))
theorem Dp{α β:Type}{F G:α->β->Prop}{b':β}:∀{l:List α} {r:List β} {c:Nat},Paired F l r->(∀i a b,i≠c->l[i]?=some a->r[i]?=some b->F a b->G a b)->(∀a b,l[c]?=some a->r[c]?=some b->F a b->G a b')->Paired G l (r.set c b')
 | _,_,_,.nil,_,_=>.nil
 | _,_,0,.cons h t,k,k'=>by
  refine .cons (k' _ _ rfl rfl h) (gh t λi a b e1 e2 q=>k (i+1) a b li (by simpa using e1) (by simpa using e2) q)
 | _,_,c+1,.cons h t,k,k'=>by
  refine .cons (k 0 _ _ li rfl rfl h) (Dp t (λi a b hi e1 e2 q=>k (i+1) a b li (by simpa using e1) (by simpa using e2) q) λa b e1 e2 q=>k' a b (by simpa using e1) (by simpa using e2) q)
theorem nR{α β:Type}{F:α->β->Prop}{a:α}{b:β}:∀{l:List α} {r:List β},Paired F l r->F a b->Paired F (l++[a]) (r++[b])
 | _,_,.nil,h=>.cons h .nil
 | _,_,.cons g t,h=>.cons g (nR t h)
section
variable{t:aZ}{C CT:Addr}{H:Hp}{m:Addr}{A:MA}{S:Mc}{lab:Addr->Nat}
theorem tF{x:Addr}{xs:List V}{o:HO}(hx:H x=some (.lst xs)):∀b ys,H b=some (.tup ys)->upd H x o b=some (.tup ys):=λb ys e=>by rw[aj (gj e hx (by intro z;cases z))];exact e
theorem y8{x:Addr}{xs:List V}{o:HO}(hx:H x=some (.lst xs)):∀b C dx fs,H b=some (.ins C dx fs)->upd H x o b=some (.ins C dx fs):=λb C dx fs e=>by rw[aj (gj e hx (by intro z;cases z))];exact e
theorem Kv{PT x:Addr}{pos:Pos}{q:Str}{xs:List V}{o:HO}(hx:H x=some (.lst xs))(h:cJ PT pos q H):cJ PT pos q (upd H x o):=
 AM (F:=[x]) h (λb o' n e=>by rw[aj λz=>n (by rw[z];exact gz.mpr rfl)];exact e) λb hb o' e=>by rw[gz.mp hb,hx]at e;cases e;exact .inr ⟨_,rfl⟩
theorem al0(M:aU t C CT H m A S)(L:jk lab m A){c:Nat}{k:Ck}(hk:S.ck[c]?=some k)(v:Nat):aU t C CT (upd H A.pl (.lst ((S.ck.map λk=>V.int (k.pl:Nat)).set c (.int (v:Nat))))) m A { S with ck:=S.ck.set c { k with pl:=v } }:=by
 obtain⟨⟨dx,fs,h1,h2⟩,lt,ts,pg,⟨vs,s1,s2⟩,pl,ct,rg,rs,ce,⟨us,a1,a2⟩,cm,cs⟩:=M;have bp:lab A.pl=6:=L.pl;have kt:=tF (o:=.lst ((S.ck.map λk=>V.int (k.pl:Nat)).set c (.int (v:Nat)))) pl;have ki:=y8 (o:=.lst ((S.ck.map λk=>V.int (k.pl:Nat)).set c (.int (v:Nat)))) pl;have h2:vG fs A { S with ck:=S.ck.set c { k with pl:=v } }:=⟨h2.fh,h2.program,h2.kind,h2.steps,h2.places,h2.counts,h2.dJ,h2.cells,h2.iB,h2.jN,h2.ms,h2.vX⟩
 exact⟨⟨dx,fs,(aj (bN (lab:=lab) (bQ L.m bp fZ))).trans h1,h2⟩,(aj (bN (lab:=lab) (bQ L.lt bp fZ))).trans lt,wU (gh ts λi x c hx _ q=>c7.keep q (λb hb o e=>(aj (bN (lab:=lab) (bQ (L.ts i x hx b hb) bp pK))).trans e) kt) hk λa _ q=>q,pg.keep kt,⟨vs,kt _ _ s1,Paired.b8 s2 λ_ _ q=>q.keep kt λb C dx fs e _=>ki b C dx fs e⟩,by
   show upd H _ _ A.pl=some (.lst ((S.ck.set c { k with pl:=v }).map λk=>V.int (k.pl:Nat)));rw[au,Dn],by
   show upd H _ _ A.ct=some (.lst ((S.ck.set c { k with pl:=v }).map λk=>V.int (k.ct:Nat)));rw[yQ (f:=λk:Ck=>V.int (k.ct:Nat)) (k':={ k with pl:=v }) hk rfl];exact(aj (bN (lab:=lab) (bQ L.ct bp fZ))).trans ct,(aj (bN (lab:=lab) (bQ L.rg bp fZ))).trans rg,wU (gh rs λi x c hx _ q=>(aj (bN (lab:=lab) (bQ (L.rs i x hx) bp pK))).trans q) hk λa _ q=>q,(aj (bN (lab:=lab) (bQ L.ce bp fZ))).trans ce,⟨us,(aj (bN (lab:=lab) (bQ L.ac bp fZ))).trans a1,Paired.b8 a2 λ_ _ q=>q.keep kt⟩,(aj (bN (lab:=lab) (bQ L.cm bp fZ))).trans cm,gh cs λi x c hx _ q=>(aj (bN (lab:=lab) (bQ (L.cs i x hx) bp pK))).trans q⟩
theorem al2(M:aU t C CT H m A S)(L:jk lab m A){c:Nat}{k:Ck}(hk:S.ck[c]?=some k)(v:Nat):aU t C CT (upd H A.ct (.lst ((S.ck.map λk=>V.int (k.ct:Nat)).set c (.int (v:Nat))))) m A { S with ck:=S.ck.set c { k with ct:=v } }:=by
 obtain⟨⟨dx,fs,h1,h2⟩,lt,ts,pg,⟨vs,s1,s2⟩,pl,ct,rg,rs,ce,⟨us,a1,a2⟩,cm,cs⟩:=M;have bp:lab A.ct=8:=L.ct;have kt:=tF (o:=.lst ((S.ck.map λk=>V.int (k.ct:Nat)).set c (.int (v:Nat)))) ct;have ki:=y8 (o:=.lst ((S.ck.map λk=>V.int (k.ct:Nat)).set c (.int (v:Nat)))) ct;have h2:vG fs A { S with ck:=S.ck.set c { k with ct:=v } }:=⟨h2.fh,h2.program,h2.kind,h2.steps,h2.places,h2.counts,h2.dJ,h2.cells,h2.iB,h2.jN,h2.ms,h2.vX⟩
 exact⟨⟨dx,fs,(aj (bN (lab:=lab) (bQ L.m bp fZ))).trans h1,h2⟩,(aj (bN (lab:=lab) (bQ L.lt bp fZ))).trans lt,wU (gh ts λi x c hx _ q=>c7.keep q (λb hb o e=>(aj (bN (lab:=lab) (bQ (L.ts i x hx b hb) bp pK))).trans e) kt) hk λa _ q=>q,pg.keep kt,⟨vs,kt _ _ s1,Paired.b8 s2 λ_ _ q=>q.keep kt λb C dx fs e _=>ki b C dx fs e⟩,by
   show upd H _ _ A.pl=some (.lst ((S.ck.set c { k with ct:=v }).map λk=>V.int (k.pl:Nat)));rw[yQ (f:=λk:Ck=>V.int (k.pl:Nat)) (k':={ k with ct:=v }) hk rfl];exact(aj (bN (lab:=lab) (bQ L.pl bp fZ))).trans pl,by
   show upd H _ _ A.ct=some (.lst ((S.ck.set c { k with ct:=v }).map λk=>V.int (k.ct:Nat)));rw[au,Dn],(aj (bN (lab:=lab) (bQ L.rg bp fZ))).trans rg,wU (gh rs λi x c hx _ q=>(aj (bN (lab:=lab) (bQ (L.rs i x hx) bp pK))).trans q) hk λa _ q=>q,(aj (bN (lab:=lab) (bQ L.ce bp fZ))).trans ce,⟨us,(aj (bN (lab:=lab) (bQ L.ac bp fZ))).trans a1,Paired.b8 a2 λ_ _ q=>q.keep kt⟩,(aj (bN (lab:=lab) (bQ L.cm bp fZ))).trans cm,gh cs λi x c hx _ q=>(aj (bN (lab:=lab) (bQ (L.cs i x hx) bp pK))).trans q⟩
theorem Ex(M:aU t C CT H m A S)(L:jk lab m A){c:Nat}{k:Ck}(hk:S.ck[c]?=some k){a:Addr}(ha:A.rs[c]?=some a)(r:Nat)(v:Int):aU t C CT (upd H a (.lst ((k.rg.map V.int).set r (.int v)))) m A { S with ck:=S.ck.set c { k with rg:=k.rg.set r v } }:=by
 obtain⟨⟨dx,fs,h1,h2⟩,lt,ts,pg,⟨vs,s1,s2⟩,pl,ct,rg,rs,ce,⟨us,a1,a2⟩,cm,cs⟩:=M
 have jl:H a=some (.lst (k.rg.map V.int)):=by
  refine ah (AK rs ha) λk2 e2 q=>?_;rw[hk]at e2;cases e2;exact q
 have bp:lab a=24+6*c:=L.rs c a ha;have kt:=tF (o:=.lst ((k.rg.map V.int).set r (.int v))) jl;have ki:=y8 (o:=.lst ((k.rg.map V.int).set r (.int v))) jl;have h2:vG fs A { S with ck:=S.ck.set c { k with rg:=k.rg.set r v } }:=⟨h2.fh,h2.program,h2.kind,h2.steps,h2.places,h2.counts,h2.dJ,h2.cells,h2.iB,h2.jN,h2.ms,h2.vX⟩
 exact⟨⟨dx,fs,(aj (bN (lab:=lab) (bQ L.m bp ip))).trans h1,h2⟩,(aj (bN (lab:=lab) (bQ L.lt bp ip))).trans lt,wU (gh ts λi x c hx _ q=>c7.keep q (λb hb o e=>(aj (bN (lab:=lab) (bQ (L.ts i x hx b hb) bp vV))).trans e) kt) hk λa _ q=>q,pg.keep kt,⟨vs,kt _ _ s1,Paired.b8 s2 λ_ _ q=>q.keep kt λb C dx fs e _=>ki b C dx fs e⟩,by
   show upd H _ _ A.pl=some (.lst ((S.ck.set c { k with rg:=k.rg.set r v }).map λk=>V.int (k.pl:Nat)));rw[yQ (f:=λk:Ck=>V.int (k.pl:Nat)) (k':={ k with rg:=k.rg.set r v }) hk rfl];exact(aj (bN (lab:=lab) (bQ L.pl bp ip))).trans pl,by
   show upd H _ _ A.ct=some (.lst ((S.ck.set c { k with rg:=k.rg.set r v }).map λk=>V.int (k.ct:Nat)));rw[yQ (f:=λk:Ck=>V.int (k.ct:Nat)) (k':={ k with rg:=k.rg.set r v }) hk rfl];exact(aj (bN (lab:=lab) (bQ L.ct bp ip))).trans ct,(aj (bN (lab:=lab) (bQ L.rg bp ip))).trans rg,Dp rs (λi x b hi hx _ q=>(aj (bN (lab:=lab) (bQ (L.rs i x hx) bp vU))).trans q) λx b hx hb q=>by
   rw[ha]at hx;cases hx;show upd H a _ a=some (.lst ((k.rg.set r v).map V.int));rw[au,Dn],(aj (bN (lab:=lab) (bQ L.ce bp ip))).trans ce,⟨us,(aj (bN (lab:=lab) (bQ L.ac bp ip))).trans a1,Paired.b8 a2 λ_ _ q=>q.keep kt⟩,(aj (bN (lab:=lab) (bQ L.cm bp ip))).trans cm,gh cs λi x c hx _ q=>(aj (bN (lab:=lab) (bQ (L.cs i x hx) bp vV))).trans q⟩
theorem al3(M:aU t C CT H m A S)(L:jk lab m A)(n:Nat)(v:Int):aU t C CT (upd H A.ce (.lst ((S.bd.map V.int).set n (.int v)))) m A { S with bd:=S.bd.set n v }:=by
 obtain⟨⟨dx,fs,h1,h2⟩,lt,ts,pg,⟨vs,s1,s2⟩,pl,ct,rg,rs,ce,⟨us,a1,a2⟩,cm,cs⟩:=M;have bp:lab A.ce=12:=L.ce;have kt:=tF (o:=.lst ((S.bd.map V.int).set n (.int v))) ce;have ki:=y8 (o:=.lst ((S.bd.map V.int).set n (.int v))) ce;have h2:vG fs A { S with bd:=S.bd.set n v }:=⟨h2.fh,h2.program,h2.kind,h2.steps,h2.places,h2.counts,h2.dJ,h2.cells,h2.iB,h2.jN,h2.ms,h2.vX⟩
 exact⟨⟨dx,fs,(aj (bN (lab:=lab) (bQ L.m bp fZ))).trans h1,h2⟩,(aj (bN (lab:=lab) (bQ L.lt bp fZ))).trans lt,gh ts λi x c hx _ q=>c7.keep q (λb hb o e=>(aj (bN (lab:=lab) (bQ (L.ts i x hx b hb) bp pK))).trans e) kt,pg.keep kt,⟨vs,kt _ _ s1,Paired.b8 s2 λ_ _ q=>q.keep kt λb C dx fs e _=>ki b C dx fs e⟩,(aj (bN (lab:=lab) (bQ L.pl bp fZ))).trans pl,(aj (bN (lab:=lab) (bQ L.ct bp fZ))).trans ct,(aj (bN (lab:=lab) (bQ L.rg bp fZ))).trans rg,gh rs λi x c hx _ q=>(aj (bN (lab:=lab) (bQ (L.rs i x hx) bp pK))).trans q,by
   show upd H _ _ A.ce=some (.lst ((S.bd.set n v).map V.int));rw[au,Dn],⟨us,(aj (bN (lab:=lab) (bQ L.ac bp fZ))).trans a1,Paired.b8 a2 λ_ _ q=>q.keep kt⟩,(aj (bN (lab:=lab) (bQ L.cm bp fZ))).trans cm,gh cs λi x c hx _ q=>(aj (bN (lab:=lab) (bQ (L.cs i x hx) bp pK))).trans q⟩
theorem LV(M:aU t C CT H m A S)(L:jk lab m A){ws:List V}(hw:H A.ac=some (.lst ws)){x:V}{a:Act}(hx:vC H x a):aU t C CT (upd H A.ac (.lst (ws++[x]))) m A { S with ac:=S.ac++[a] }:=by
 obtain⟨⟨dx,fs,h1,h2⟩,lt,ts,pg,⟨vs,s1,s2⟩,pl,ct,rg,rs,ce,⟨us,a1,a2⟩,cm,cs⟩:=M;obtain rfl:ws=us:=by rw[hw]at a1;cases a1;rfl
 have bp:lab A.ac=14:=L.ac;have kt:=tF (o:=.lst (ws++[x])) hw;have ki:=y8 (o:=.lst (ws++[x])) hw;have h2:vG fs A { S with ac:=S.ac++[a] }:=⟨h2.fh,h2.program,h2.kind,h2.steps,h2.places,h2.counts,h2.dJ,h2.cells,h2.iB,h2.jN,h2.ms,h2.vX⟩;exact⟨⟨dx,fs,(aj (bN (lab:=lab) (bQ L.m bp fZ))).trans h1,h2⟩,(aj (bN (lab:=lab) (bQ L.lt bp fZ))).trans lt,gh ts λi x c hx _ q=>c7.keep q (λb hb o e=>(aj (bN (lab:=lab) (bQ (L.ts i x hx b hb) bp pK))).trans e) kt,pg.keep kt,⟨vs,kt _ _ s1,Paired.b8 s2 λ_ _ q=>q.keep kt λb C dx fs e _=>ki b C dx fs e⟩,(aj (bN (lab:=lab) (bQ L.pl bp fZ))).trans pl,(aj (bN (lab:=lab) (bQ L.ct bp fZ))).trans ct,(aj (bN (lab:=lab) (bQ L.rg bp fZ))).trans rg,gh rs λi x c hx _ q=>(aj (bN (lab:=lab) (bQ (L.rs i x hx) bp pK))).trans q,(aj (bN (lab:=lab) (bQ L.ce bp fZ))).trans ce,⟨ws++[x],au,nR (Paired.b8 a2 λ_ _ q=>q.keep kt) (hx.keep kt)⟩,(aj (bN (lab:=lab) (bQ L.cm bp fZ))).trans cm,gh cs λi x c hx _ q=>(aj (bN (lab:=lab) (bQ (L.cs i x hx) bp pK))).trans q⟩
theorem al1(M:aU t C CT H m A S)(L:jk lab m A){n:Nat}{ov:List Int}(hn:S.ov[n]?=some ov){a:Addr}(ha:A.cs[n]?=some a)(d:Int):aU t C CT (upd H a (.lst (ov.map V.int++[.int d]))) m A { S with ov:=S.ov.set n (ov++[d]) }:=by
 obtain⟨⟨dx,fs,h1,h2⟩,lt,ts,pg,⟨vs,s1,s2⟩,pl,ct,rg,rs,ce,⟨us,a1,a2⟩,cm,cs⟩:=M
 have pV:H a=some (.lst (ov.map V.int)):=by
  refine ah (AK cs ha) λo2 e2 q=>?_;rw[hn]at e2;cases e2;exact q
 have bp:lab a=26+6*n:=L.cs n a ha;have kt:=tF (o:=.lst (ov.map V.int++[.int d])) pV;have ki:=y8 (o:=.lst (ov.map V.int++[.int d])) pV;have h2:vG fs A { S with ov:=S.ov.set n (ov++[d]) }:=⟨h2.fh,h2.program,h2.kind,h2.steps,h2.places,h2.counts,h2.dJ,h2.cells,h2.iB,h2.jN,h2.ms,h2.vX⟩
 exact⟨⟨dx,fs,(aj (bN (lab:=lab) (bQ L.m bp ip))).trans h1,h2⟩,(aj (bN (lab:=lab) (bQ L.lt bp ip))).trans lt,gh ts λi x c hx _ q=>c7.keep q (λb hb o e=>(aj (bN (lab:=lab) (bQ (L.ts i x hx b hb) bp vV))).trans e) kt,pg.keep kt,⟨vs,kt _ _ s1,Paired.b8 s2 λ_ _ q=>q.keep kt λb C dx fs e _=>ki b C dx fs e⟩,(aj (bN (lab:=lab) (bQ L.pl bp ip))).trans pl,(aj (bN (lab:=lab) (bQ L.ct bp ip))).trans ct,(aj (bN (lab:=lab) (bQ L.rg bp ip))).trans rg,gh rs λi x c hx _ q=>(aj (bN (lab:=lab) (bQ (L.rs i x hx) bp vV))).trans q,(aj (bN (lab:=lab) (bQ L.ce bp ip))).trans ce,⟨us,(aj (bN (lab:=lab) (bQ L.ac bp ip))).trans a1,Paired.b8 a2 λ_ _ q=>q.keep kt⟩,(aj (bN (lab:=lab) (bQ L.cm bp ip))).trans cm,Dp cs (λi x b hi hx _ q=>(aj (bN (lab:=lab) (bQ (L.cs i x hx) bp vU))).trans q) λx b hx hb q=>by
   rw[ha]at hx;cases hx;rw[au,km];rfl⟩
theorem Vv{H':Hp}{c:Nat}{k:Ck}{x:Addr×Addr×List Addr}{tn:Int}{es:List Ent}(M:aU t C CT H m A S)(L:jk lab m A)(hk:S.ck[c]?=some k)(hx:A.ts[c]?=some x)(kp:gF (x.1::x.2.1::x.2.2) H H')(T:c7 H' x.1 CT S.kd tn es x.2.1 x.2.2) :
  aU t C CT H' m A { S with ck:=S.ck.set c { k with tn:=tn,es:=es } }:=by
 obtain⟨⟨dx,fs,h1,h2⟩,lt,ts,pg,⟨vs,s1,s2⟩,pl,ct,rg,rs,ce,⟨us,a1,a2⟩,cm,cs⟩:=M;refine ah (AK ts hx) λk0 e0 T0=>?_;rw[hk]at e0;cases e0;have bp:∀b∈x.1::x.2.1::x.2.2,lab b=28+6*c:=L.ts c x hx;have out:∀b o,lab b≠28+6*c->(∀ps,o≠.eZ ps)->H b=some o->H' b=some o:=λb o n z e=>kp.k b o (λhb=>n (bp b hb)) z e;have kt:∀b ys,H b=some (.tup ys)->H' b=some (.tup ys):=λb ys e=>kp.k b _ (λhb=>by rcases T0.kinds b hb _ e with ⟨_,_,_,z⟩ | ⟨_,z⟩ <;> cases z) (λps z=>by cases z) e
 have ki:∀b C dx fs,H b=some (.ins C dx fs)->(∃x ps v,C=cZ t x/\fs=eM v x ps)->H' b=some (.ins C dx fs):=λb C dx fs e hs=>kp.k b _ (λhb=>by
  refine eV hs λx' ps v _ aa=>?_;clear hs;subst aa;rcases bq.mp hb with z | z
  ·refine cG T0.obj λyB lY e' jF _=>?_;rw[z,e']at e;cases e;rw[xj "kind" dk]at jF;cases jF
  ·rcases bq.mp z with z | z
   ·rw[z,T0.qs]at e;cases e
   ·refine oE (uH z) λi aa=>?_;refine oE aa λhi ez=>?_;obtain⟨oB,e',_⟩:=T0.jC i b (by rw[<-ez];exact bb hi);rw[e']at e;cases e) (λps z=>by cases z) e
 have nl:∀ys:List V,∀ps,HO.lst ys≠.eZ ps:=λys ps z=>by cases z
 have h2:vG fs A { S with ck:=S.ck.set c { k with tn:=tn,es:=es } }:=⟨h2.fh,h2.program,h2.kind,h2.steps,h2.places,h2.counts,h2.dJ,h2.cells,h2.iB,h2.jN,h2.ms,h2.vX⟩;refine⟨⟨dx,fs,out _ _ (qD L.m ip) (λps z=>by cases z) h1,h2⟩,out _ _ (qD L.lt ip) (nl _) lt,?_,pg.keep kt,⟨vs,kt _ _ s1,Paired.b8 s2 λ_ _ q=>q.keep kt ki⟩,?_,?_,out _ _ (qD L.rg ip) (nl _) rg,?_,out _ _ (qD L.ce ip) (nl _) ce,⟨us,out _ _ (qD L.ac ip) (nl _) a1,Paired.b8 a2 λ_ _ q=>q.keep kt⟩,out _ _ (qD L.cm ip) (nl _) cm,gh cs λi y b hy _ q=>out _ _ (qD (L.cs i y hy) vV) (nl _) q⟩
 ·refine Dp ts (λi y b hi hy _ q=>c7.keep q (λb' CB o e=>out b' o (qD (L.ts i y hy b' CB) vU) (λps z=>?_) e) kt) λy b hy hb q=>?_
  ·rcases q.kinds b' CB _ e with ⟨_,_,_,w⟩ | ⟨_,w⟩ <;> (rw[z]at w;cases w)
  ·rw[hx]at hy;cases hy;exact T
 ·show H' A.pl=some (.lst ((S.ck.set c { k with tn:=tn,es:=es }).map λk=>V.int (k.pl:Nat)));rw[yQ (f:=λk:Ck=>V.int (k.pl:Nat)) (k':={ k with tn:=tn,es:=es }) hk rfl];exact out _ _ (qD L.pl ip) (nl _) pl
 ·show H' A.ct=some (.lst ((S.ck.set c { k with tn:=tn,es:=es }).map λk=>V.int (k.ct:Nat)));rw[yQ (f:=λk:Ck=>V.int (k.ct:Nat)) (k':={ k with tn:=tn,es:=es }) hk rfl];exact out _ _ (qD L.ct ip) (nl _) ct
 ·exact wU (gh rs λi y b hy _ q=>out _ _ (qD (L.rs i y hy) vV) (nl _) q) hk λa _ q=>q
end
structure gw(K:W.Frag)(C:Addr):Prop where
 cl:eh K C
 fh:bj K C "trays"
 program:bj K C "program"
 kind:bj K C "kind"
 steps:bj K C "steps"
 places:bj K C "places"
 counts:bj K C "counts"
 dJ:bj K C "regs"
 cells:bj K C "cells"
 iB:bj K C "acts"
 jN:bj K C "comers"
theorem iY{α:Type}{f:α->V}{r:List α}{c:Nat}{k:α}(h:r[c]?=some k):ir (r.map f) (c:Int)=some (f k):=dG (by rw[fw,h];rfl)
theorem AL{l:List (Addr×Addr×List Addr)}{c:Nat}{x:Addr×Addr×List Addr}(h:l[c]?=some x):ir (l.map λx=>V.ref x.1) (c:Int)=some (.ref x.1):=iY (f:=λx:Addr×Addr×List Addr=>V.ref x.1) h
structure mz(S:Mc):Prop where
 good:qu S.ps
 len:S.ck.length=S.ps.length
 bd:S.bd.length=12
 ov:S.ov.length=12
 rg:∀k∈S.ck,k.rg.length=4
 pl:∀(c:Nat) k p,S.ck[c]?=some k->S.ps[c]?=some p->k.pl<=p.length
 ac:S.ac.length<=15000
 es:∀k∈S.ck,k.es.length<=S.ac.length
section
variable{t:aZ}{C CT:Addr}{H:Hp}{m:Addr}{A:MA}{S:Mc}
theorem aU.tX(M:aU t C CT H m A S){c:Nat}{k:Ck}(h:S.ck[c]?=some k):∃x,A.ts[c]?=some x/\FG CT S.kd H x k:=tm M.ts h
theorem aU.dJ(M:aU t C CT H m A S){c:Nat}{k:Ck}(h:S.ck[c]?=some k):∃a,A.rs[c]?=some a/\H a=some (.lst (k.rg.map V.int)):=tm (F:=λa (k:Ck)=>H a=some (.lst (k.rg.map V.int))) M.rs h
theorem aU.over(M:aU t C CT H m A S){n:Nat}{o:List Int}(h:S.ov[n]?=some o):∃a,A.cs[n]?=some a/\H a=some (.lst (o.map V.int)):=tm (F:=λa (o:List Int)=>H a=some (.lst (o.map V.int))) M.cs h
theorem aU.part(M:aU t C CT H m A S){c:Nat}{p:Pt}(h:S.ps[c]?=some p):∃vs b us,H A.st=some (.tup vs)/\vs[c]?=some (.ref b)/\H b=some (.tup us)/\Paired (r9 t H) us p:=by
 refine ah M.st λvs h1 h2=>?_;refine ah (tm h2 h) λv hv aa=>?_;refine cG aa λb us aa h3 h4=>?_;subst aa;exact⟨vs,b,us,h1,hv,h3,h4⟩
end
section
variable{t:aZ}{C CT:Addr}
def TN(t:aZ)(C CT:Addr):Sp:=λvs H Q _=>∃m A S c k p,vs=[.ref m,.int (c:Nat)]/\aU t C CT H m A S/\S.ck[c]?=some k/\S.ps[c]?=some p/\p.length<=1000/\Q (.bl (decide (k.pl=p.length))) H
theorem ah9:bg ["self","clerk"] ["self","clerk"] (aQ Lh):=bu
theorem D9(a b:Nat):decide (V.int (a:Int)=V.int (b:Int))=decide (a=b):=decide_eq_decide.mpr ⟨λz=>by injection z with z;lia,λz=>by rw[z]⟩
theorem agx{f:Addr}{fd:aV}(F:aW K "at_end" "Machine.at_end" Lh f fd)(gd:mg "len" = none)(cM:gw K C):aw P w K mg base az 1 f fd ["self","clerk"] (TN t C CT):=by
 refine F.ok ah9 (λvs H Q E h=>?_) λaI A _ s H vs Q E hr h=>?_
 ·refine ni h λm A S c k p aa _=>?_;subst aa;rfl
 ·obtain⟨m,A,S,c,k,p,aa,M,hk,hp,hl,q⟩:=h;subst aa;refine nE (aB (a8 (tH eC (aT cI (a6 (pv 0) rfl) (pv 1)) (cA iG rfl gd PySem.boot_len (ae (aT du (a6 (pv 0) rfl) (pv 1)) ag)) (bU _)))) ?_;refine a9 (id M.obj) λdx fs hm G=>?_;obtain⟨vs,b,us,h1,h2,h3,h4⟩:=(M.part hp);refine vF rfl hm cM.cl cM.places G.places (vr rfl (rL (av.of M.pl) (iY (f:=λk:Ck=>V.int (k.pl:Nat)) hk) ?_));refine vF rfl hm cM.cl cM.steps G.steps (vr rfl (rT (v:=.ref b) (aE.of h1) (dG h2) (qi b us rfl (.inr (aE.of h3)) rfl ?_)));rw[Paired.length h4,D9];exact q
def DX(t:aZ)(C CT:Addr)(g:Ck->Nat):Sp:=λvs H Q _=>∃m A S c k,vs=[.ref m,.int (c:Nat)]/\aU t C CT H m A S/\S.ck[c]?=some k/\Q (.int (g k:Nat)) H
theorem ah0:bg ["self","clerk"] ["self","clerk"] (aQ KU):=bu
theorem agi{f:Addr}{fd:aV}(F:aW K "where" "Machine.where" KU f fd)(cM:gw K C):aw P w K mg base az 1 f fd ["self","clerk"] (DX t C CT Ck.pl):=by
 refine F.ok ah0 (λvs H Q E h=>?_) λaI A _ s H vs Q E hr h=>?_
 ·obtain⟨m,A,S,c,k,aa,_⟩:=h;subst aa;rfl
 ·obtain⟨m,A,S,c,k,aa,M,hk,q⟩:=h;subst aa;refine nE (aB (a8 (aT cI (a6 (pv 0) rfl) (pv 1)))) ?_;refine a9 (id M.obj) λdx fs hm G=>?_;exact vF rfl hm cM.cl cM.places G.places (vr rfl (rL (av.of M.pl) (iY (f:=λk:Ck=>V.int (k.pl:Nat)) hk) q))
theorem ade:bg ["self","clerk"] ["self","clerk"] (aQ IB):=bu
theorem acH{f:Addr}{fd:aV}(F:aW K "steps_done" "Machine.steps_done" IB f fd)(cM:gw K C):aw P w K mg base az 1 f fd ["self","clerk"] (DX t C CT Ck.ct):=by
 refine F.ok ade (λvs H Q E h=>?_) λaI A _ s H vs Q E hr h=>?_
 ·obtain⟨m,A,S,c,k,aa,_⟩:=h;subst aa;rfl
 ·obtain⟨m,A,S,c,k,aa,M,hk,q⟩:=h;subst aa;refine nE (aB (a8 (aT cI (a6 (pv 0) rfl) (pv 1)))) ?_;refine a9 (id M.obj) λdx fs hm G=>?_;exact vF rfl hm cM.cl cM.counts G.counts (vr rfl (rL (av.of M.ct) (iY (f:=λk:Ck=>V.int (k.ct:Nat)) hk) q))
def UP(t:aZ)(C CT:Addr):Sp:=λvs H Q _=>∃m A S c k,vs=[.ref m,.int (c:Nat)]/\aU t C CT H m A S/\S.ck[c]?=some k/\∀l,H l=none->Q (.ref l) (upd H l (.lst (k.rg.map V.int)))
theorem adf:bg ["self","clerk"] ["self","clerk"] (aQ IC):=bu
theorem acI{f:Addr}{fd:aV}(F:aW K "registers" "Machine.registers" IC f fd)(gR:mg "list" = none)(cM:gw K C):aw P w K mg base az 1 f fd ["self","clerk"] (UP t C CT):=by
 refine F.ok adf (λvs H Q E h=>?_) λaI A _ s H vs Q E hr h=>?_
 ·obtain⟨m,A,S,c,k,aa,_⟩:=h;subst aa;rfl
 ·obtain⟨m,A,S,c,k,aa,M,hk,q⟩:=h;subst aa;refine nE (aB (a8 (jg rA rfl gR o7 (ae (aT cI (a6 (pv 0) rfl) (pv 1)) ag)))) ?_;refine a9 (id M.obj) λdx fs hm G=>?_;refine ah (M.dJ hk) λa ha jl=>?_;exact vF rfl hm cM.cl cM.dJ G.dJ (vr rfl (rL (v:=.ref a) (av.of M.rg) (iY ha) ⟨a,⟨_,rfl,.inl (av.of jl),q⟩⟩))
def TM(t:aZ)(C CT:Addr):Sp:=λvs H Q _=>∃m A S,vs=[.ref m]/\aU t C CT H m A S/\∀l,H l=none->Q (.ref l) (upd H l (.lst (S.bd.map V.int)))
theorem ah8:bg ["self"] ["self"] (aQ Lg):=bu
theorem agw{f:Addr}{fd:aV}(F:aW K "board" "Machine.board" Lg f fd)(gR:mg "list" = none)(cM:gw K C):aw P w K mg base az 1 f fd ["self"] (TM t C CT):=by
 refine F.ok ah8 (λvs H Q E h=>?_) λaI A _ s H vs Q E hr h=>?_
 ·refine eV h λm A S aa _=>?_;clear h;subst aa;rfl
 ·refine kA h λm A S aa M q=>?_;clear h;subst aa;refine nE (aB (a8 (jg rA rfl gR o7 (ae (a6 (pv 0) rfl) ag)))) ?_;refine a9 (id M.obj) λdx fs hm G=>?_;exact vF rfl hm cM.cl cM.cells G.cells ⟨A.ce,⟨_,rfl,.inl (av.of M.ce),q⟩⟩
def TJ(t:aZ)(C CT:Addr):Sp:=λvs H Q _=>∃m A S,vs=[.ref m]/\aU t C CT H m A S/\∀l ws,H l=none->Paired (vC H) ws S.ac->Q (.ref l) (upd H l (.lst ws))
theorem ah6:bg ["self"] ["self"] (aQ Le):=bu
theorem agu{f:Addr}{fd:aV}(F:aW K "deeds" "Machine.deeds" Le f fd)(gR:mg "list" = none)(cM:gw K C):aw P w K mg base az 1 f fd ["self"] (TJ t C CT):=by
 refine F.ok ah6 (λvs H Q E h=>?_) λaI A _ s H vs Q E hr h=>?_
 ·refine eV h λm A S aa _=>?_;clear h;subst aa;rfl
 ·refine kA h λm A S aa M q=>?_;clear h;subst aa;refine nE (aB (a8 (jg rA rfl gR o7 (ae (a6 (pv 0) rfl) ag)))) ?_;refine a9 (id M.obj) λdx fs hm G=>?_;refine ah M.ac λws h1 h2=>?_;exact vF rfl hm cM.cl cM.iB G.iB ⟨A.ac,⟨_,rfl,.inl (av.of h1),λl hl=>q l ws hl h2⟩⟩
def UR(t:aZ)(C CT:Addr):Sp:=λvs H Q _=>∃m A S n o,vs=[.ref m,.int (n:Nat)]/\aU t C CT H m A S/\S.ov[n]?=some o/\∀l,H l=none->Q (.ref l) (upd H l (.lst (o.map V.int)))
theorem akh:bg ["self","name"] ["self","name"] (aQ L8):=bu
theorem aiw{f:Addr}{fd:aV}(F:aW K "over" "Machine.over" L8 f fd)(gR:mg "list" = none)(cM:gw K C):aw P w K mg base az 1 f fd ["self","name"] (UR t C CT):=by
 refine F.ok akh (λvs H Q E h=>?_) λaI A _ s H vs Q E hr h=>?_
 ·obtain⟨m,A,S,n,o,aa,_⟩:=h;subst aa;rfl
 ·obtain⟨m,A,S,n,o,aa,M,hn,q⟩:=h;subst aa;refine nE (aB (a8 (jg rA rfl gR o7 (ae (aT cI (a6 (pv 0) rfl) (pv 1)) ag)))) ?_;refine a9 (id M.obj) λdx fs hm G=>?_;refine ah (M.over hn) λa ha pV=>?_;exact vF rfl hm cM.cl cM.jN G.jN (vr rfl (rL (v:=.ref a) (av.of M.cm) (iY ha) ⟨a,⟨_,rfl,.inl (av.of pV),q⟩⟩))
def RB(t:aZ)(C CT:Addr):Sp:=λvs H Q _=>∃m A S c k,vs=[.ref m,.int (c:Nat)]/\aU t C CT H m A S/\S.ck[c]?=some k/\k.es.length<64/\∀H' l us,af H H'->H l=none->H' l=some (.lst us)->Paired (vq H') us k.es->Q (.ref l) H'
theorem aeC:bg ["self","clerk"] ["self","clerk"] (aQ Jt):=bu
theorem adR{f fL:Addr}{fd wG:aV}(F:aW K "waiting" "Machine.waiting" Jt f fd)(cM:gw K C)(cT:lC K CT)(GL:aw P w K mg base az 1 fL wG ["self"] (Su CT))(bL:Binds K wG ["self"] [])(mL:Meth K CT "listed" fL):aw P w K mg base az 2 f fd ["self","clerk"] (RB t C CT):=by
 refine F.ok aeC (λvs H Q E h=>?_) λaI A _ s H vs Q E hr h=>?_
 ·obtain⟨m,A,S,c,k,aa,_⟩:=h;subst aa;rfl
 ·obtain⟨m,A,S,c,k,aa,M,hk,hl,q⟩:=h;subst aa;refine nE (aB (a8 (jr (aT cI (a6 (pv 0) rfl) (pv 1)) cT.cl mL GL hr bL .nil aS))) ?_;refine a9 (id M.obj) λdx fs hm G=>?_;refine ah (M.tX hk) λx hx T=>?_;refine iV (id T.obj) λkh jH ea e1 e2 e3 em el=>?_;exact vF rfl hm cM.cl cM.fh G.fh (vr rfl (rL (v:=.ref x.1) (av.of M.lt) (AL hx) (rM ea (em _ dk) (⟨x.1,_,_,_,_,(⟨_,rfl,T,hl,q⟩)⟩))))
end
abbrev Mv:=Str×List Int
def lS(mv:Mv):List V:=.str mv.1::mv.2.map V.int
def gG(H:Hp)(v:V)(mv:Mv):Prop:=∃p,v=.ref p/\H p=some (.tup (lS mv))
theorem gG.keep{H H':Hp}{v:V}{mv:Mv}(k:∀b xs,H b=some (.tup xs)->H' b=some (.tup xs))(h:gG H v mv):gG H' v mv:=by
 refine ah h λp e h=>?_;exact ar p e (k _ _ h)
theorem aM.tup{F:Addr->Prop}{H H':Hp}(k:aM F H H')(h:∀b,F b->∀xs,H b≠some (.tup xs)):∀b xs,H b=some (.tup xs)->H' b=some (.tup xs):=λb xs e=>k.k b _ (λz=>h b z xs e) (λps z=>by cases z) e
theorem aM.nu{H H':Hp}(k:aM gL H H'):∀b xs,H b=some (.tup xs)->H' b=some (.tup xs):=k.tup λb z=>z.elim
theorem aM.ml{H H':Hp}(k:aM gL H H'){b:Addr}{xs:List V}(e:H b=some (.lst xs)):H' b=some (.lst xs):=k.k b _ (λz=>z) (λps z=>by cases z) e
def sg(k:Ck)(p:Pt):Bool:=match p[k.pl]? with
 | none=>false
 | some s=>decide (k.es=[]) || !rY s
def BA(kd:Str)(x:Ck×Nat):List Mv:=(ju kd x.1.es).map λn=>(("carry" : Str),[(x.2:Int),n])
def vD(kd:Str)(l:List (Ck×Nat)):List Mv:=l.flatMap (BA kd)
def iJ(S:Mc):List Mv:=vD S.kd S.ck.zipIdx
def xB(S:Mc)(c:Nat):Bool:=match S.ck[c]?,S.ps[c]? with
 | some k,some p=>sg k p
 | _,_=>false
def t7(S:Mc)(n:Nat):List Mv:=((List.range n).filter (xB S)).map λ(c:Nat)=>(("do" : Str),[(c:Int)])
def iL(S:Mc):List Mv:=t7 S S.ck.length++iJ S
theorem Rc(kd:Str)(es:List Ent):(ju kd es).length<=12:=by
 unfold ju
 split
 ·cases es.head? <;> simp
 ·unfold mf;rw[aX];exact cu (Hv _ _) (by rw[De];exact aF _)
theorem DO(kd:Str):∀l:List (Ck×Nat),(vD kd l).length<=12*l.length
 | []=>by simp[vD]
 | x::l=>by
  have h:=DO kd l;unfold vD at h ⊢;rw[Qd,cX,fG];have h2:(BA kd x).length<=12:=by unfold BA;rw[aX];exact Rc _ _
  lia
section
variable{t:aZ}{C CT:Addr}{u:nJ}
def Tw(t:aZ)(C CT:Addr):Sp:=λvs H Q _=>∃m A S c k p,vs=[.ref m,.int (c:Nat)]/\aU t C CT H m A S/\S.ck[c]?=some k/\S.ps[c]?=some p/\p.length<=1000/\k.pl<=p.length/\(∀s∈p,∃sz,di sz s)/\∀H',af H H'->Q (.bl (sg k p)) H'
theorem TU:bg ["self","clerk","step"] ["self","clerk"] (aQ La):=bu
theorem agn{f fA fE:Addr}{fd CN fdE:aV}(F:aW K "may_do" "Machine.may_do" La f fd)(cM:gw K C)(cT:lC K CT)(O:zH K mg t u)
  (GA:aw P w K mg base az 1 fA CN ["self","clerk"] (TN t C CT)) (bA:Binds K CN ["self","clerk"] []) (mA:Meth K C "at_end" fA)
  (GE:aw P w K mg base az 1 fE fdE ["self"] (TF CT)) (bE:Binds K fdE ["self"] []) (mE:Meth K CT "is_empty" fE):aw P w K mg base az 2 f fd ["self","clerk"] (Tw t C CT):=by
 refine F.ok TU (λvs H Q E h=>?_) λaI A _ s H vs Q E hr h=>?_
 ·refine ni h λm A S c k p aa _=>?_;subst aa;rfl
 ·obtain⟨m,A,S,c,k,p,aa,M,hk,hp,hl,hle,hg,q⟩:=h;subst aa;refine⟨_,ax (cF (iX (iK (pv 0) cM.cl mA GA hr bA .nil aS (ae (pv 1) ag))) (aB (a8 kG)) cU) (ax (bZ (i:=2) TU.nd rfl (aR rfl) (aT du (aT du (a6 (pv 0) rfl) (pv 1)) (aT cI (a6 (pv 0) rfl) (pv 1)))) (aB (a8 (VJ (jr (aT cI (a6 (pv 0) rfl) (pv 1)) cT.cl mE GE hr bE .nil aS) (vo (Lm (agb (k:=1) (CX:=az) (E:=E0) (P:=P) (w:=w) (K:=K) (mg:=mg) (base:=base) (pv 2) hr aS))))))),?_⟩;refine a9 (id M.obj) λdx fs hm G=>?_;refine ah (M.tX hk) λx hx T=>?_;refine iV (id T.obj) λkh jH ea e1 e2 e3 em el=>?_;obtain⟨vs,b,us,h1,h2,h3,h4⟩:=(M.part hp);refine vM rfl hm (G.ms _ dk) (vr rfl (⟨m,A,S,c,k,p,rfl,M,hk,hp,hl,(tk (cx (λhe=>?_) λhe=>?_))⟩))
  ·have e:sg k p=false:=by unfold sg;rw[P0 li]
   have q:=q H (af.refl H);rw[e]at q;exact q
  have dB:k.pl<p.length:=li;have hs:p[k.pl]?=some p[k.pl]:=bb dB;refine ah (tm h4 hs) λv hv aa=>?_;refine eV aa λz a dz aa hz=>?_;subst aa;refine oE (hg _ (AB dB)) λsz gs=>?_;refine ar _ rfl (cY m C dx fs (g9 _ rfl hm cM.cl cM.steps G.steps (vr rfl (rT (v:=.ref b) (aE.of h1) (dG h2) ?_))));refine vF rfl hm cM.cl cM.places G.places (vr rfl (rL (av.of M.pl) (iY (f:=λk:Ck=>V.int (k.pl:Nat)) hk) (rT (v:=.ref z) (aE.of h3) (dG hv) ?_)));refine ar _ rfl (cY m C dx fs (g9 _ rfl hm cM.cl cM.fh G.fh (vr rfl (rL (v:=.ref x.1) (av.of M.lt) (AL hx) (rM ea (em _ dk) (⟨x.1,_,_,_,_,(c8 _ rfl T λH1 s1=>(tk (cx (λhe=>?_) λhe=>?_)))⟩))))))
  ·have e:sg k p=true:=by unfold sg;rw[hs];show (decide (k.es=[])||_)=true;rw[decide_eq_true he];rfl
   have q:=q H1 s1;rw[e]at q;exact q
  ·have e:sg k p=!rY p[k.pl]:=by unfold sg;rw[hs];show (decide (k.es=[])||_)=_;rw[decide_eq_false he];rfl
   have q:=q H1 s1;rw[e]at q;have no:=xj "empties" dk (.ref a) p[k.pl].1 (p[k.pl].2.map λ(n:Nat)=>V.int (n:Int));obtain⟨C1,f1,fd1,pn,sp,hc,cl,me,G1,bi,q1⟩:=(alk (P:=P) (w:=w) (base:=base) (mg:=mg) O gs (s1 _ _ hz));exact ar _ rfl (⟨z,C1,dz,_,f1,fd1,pn,sp,rfl,hc,no,cl,me,G1,⟨bi,(q1 _ _ ⟨_,rfl,q⟩)⟩⟩)
def IU(t:aZ)(C CT PT:Addr):Sp:=λvs H Q _=>∃m A S,vs=[.ref m]/\aU t C CT H m A S/\S.ck.length<=4/\cJ PT LP LQ H/\∀H' l vs,aM gL H H'->cJ PT LP LQ H'->H l=none->H' l=some (.lst vs)->Paired (gG H') vs (iJ S)->Q (.ref l) H'
theorem Dv:bg ["self","found","clerk","tray"] ["self"] (aQ JA):=bu
theorem amu:(["clerk","name"]:List Str).Nodup:=dk
theorem adX{f fF PT:Addr}{fd pX:aV}(F:aW K "carries" "Machine.carries" JA f fd)(cM:gw K C)(cT:lC K CT)(GU:mg "enumerate" = none)
  (GF:aw P w K mg base az 2 fF pX ["self"] (Jo CT PT)) (bF:Binds K pX ["self"] []) (mF:Meth K CT "fronts" fF):aw P w K mg base az 3 f fd ["self"] (IU t C CT PT):=by
 refine F.ok Dv (λvs H Q E h=>?_) λaI A _ s H vs Q E hr h=>?_
 ·refine eV h λm A S aa _=>?_;clear h;subst aa;rfl
 ·obtain⟨m,A,S,aa,M,h4,hL,q⟩:=h;subst aa
  refine⟨_,ax (bZ (i:=1) Dv.nd rfl (aR rfl) (dW ag)) (ax (rQ uP rfl (D2 (b:=true) rfl GU (ae (a6 (pv 0) rfl) ag)) (zk rfl (pe (de (i:=2) Dv.nd rfl (Or.inr rfl)) (pe (de (i:=3) Dv.nd rfl (aR rfl)) za))) (aB (dQ (mh PySem.F.plainAttrs_list PySem.F.slot_list_extend PySem.F.type_list_extend RM (pv 1) (ae (ji (N:=["clerk","name"]) (idx:=[2]) rfl (dN.of (by kernel_rfl)) (je (aF _))
     (qf (jr (pv 3) cT.cl mF GF hr bF .nil aS)) (λ_ _ _ _=>de (i:=1) amu rfl (aR rfl) (.inr rfl)) (λ_ _ _ _=>jt) λ_ _ _ _=>eR (ae bw (ae (pv 0) (ae (pv 1) ag)))) ag)))))
   (aB (a8 (pv 1)))),?_⟩
  refine a9 (id M.obj) λdx fs hm G=>?_;refine⟨qc,λlw nw=>?_⟩;have s0:af H (upd H lw (.lst [])):=aH (af.refl _) nw;have hlen:A.ts.length=S.ck.length:=Paired.length M.ts;have OQ:(A.ts.map λx=>V.ref x.1).length=A.ts.length:=aX _;refine vF rfl (s0 _ _ hm) cM.cl cM.fh G.fh ⟨A.lt,⟨_,rfl,av.of (s0 _ _ M.lt),?_⟩⟩;refine Lz (n:=A.ts.length) (λi σ H'=>i<=A.ts.length/\∃c y vs,σ=[some (.ref m),some (.ref lw),c,y]/\aM gL H H'/\cJ PT LP LQ H'/\H' lw=some (.lst vs)/\Paired (gG H') vs (vD S.kd (S.ck.zipIdx.take i))) ⟨bX _,none,none,[],rfl,aM.of s0,jd hL s0,au,.nil⟩ ?_ ?_ ?_ ?_
  ·rintro i σ H' hi ⟨_,_,_,_,_,kp,_,_,_⟩;exact eW _ (V.ref A.ts[i].1) (av.of (kp.ml M.lt)) (by rw[fw,bb hi];rfl)
  ·rintro σ H' ⟨_,_,_,_,_,kp,_,_,_⟩;exact ar _ (av.of (kp.ml M.lt)) (by rw[OQ];exact aF _)
  ·rintro i σ H1 hi ⟨_,c,y,vs,rfl,kp,jG,hw,oG⟩ z H2 ⟨r,x,i7,ez,eH,eN⟩;subst ez;subst eH;have uu:=eN _ (av.of (kp.ml M.lt));rw[fw,bb hi]at uu;cases uu;have s2:af H1 (upd H1 r (.tup [.int i,.ref A.ts[i].1])):=aH (af.refl _) i7;have Ab:=s2 _ _ hw;have W9:=Paired.b8 oG λ_ _ q=>gG.keep (λb xs e=>s2 _ _ e) q;have kZ:=jd jG s2;have Zt:upd H1 r (.tup [.int i,.ref A.ts[i].1]) r=some (.tup [.int i,.ref A.ts[i].1]):=au;generalize upd H1 r (.tup [.int i,.ref A.ts[i].1])=H2 at s2 Ab W9 kZ Zt ⊢;have sO:aM gL H H2:=kp.trans (aM.of s2);have M2:=M.gm sO;have ZV:i<S.ck.length:=wf;refine ah (M2.tX (bb ZV)) λx' Zn T=>?_;rw[bb hi]at Zn;cases Zn;refine iV (id T.obj) λkh jH ea e1 e2 e3 em el=>?_;refine⟨r,⟨_,rfl,aE.of Zt,rfl,.int i,[.ref A.ts[i].1],rfl,.ref A.ts[i].1,[],rfl,rfl,?_⟩⟩;refine vr rfl ⟨.inl ⟨rfl,_,av.of Ab⟩,⟨_,rfl,_,kh,jH,rfl,ea,em _ dk,_,_,_,_,_,_,rfl,T,kZ,λH3 lf k3 oN nf hf=>?_⟩⟩;have Oq:aM gL H2 H3:=aM.NP k3 λb hb=>nomatch hb;refine c8 lf rfl ⟨_,av.of hf⟩ ?_;have GQ:=Rc S.kd S.ck[i].es;refine iW (n:=(ju S.kd S.ck[i].es).length) (λj ys H4=>j<=(ju S.kd S.ck[i].es).length/\af H3 H4/\Paired (gG H4) ys (((ju S.kd S.ck[i].es).take j).map λn=>(("carry" : Str),[(i:Int),n]))) ?_ ?_ ?_ ?_ ?_ ?_ ?_
   ·exact cO (c9 w4)
   ·exact iq (bX _) (af.refl _) .nil
   ·rintro j ys H4 ⟨_,_,e⟩;rw[Paired.length e,aX,ff];exact xl
   ·rintro j ys H4 hj ⟨_,s4,_⟩;exact eW _ (V.int (ju S.kd S.ck[i].es)[j]) (av.of (s4 _ _ hf)) (by rw[fw,bb hj];rfl)
   ·rintro ys H4 ⟨_,s4,_⟩;exact ar _ (av.of (s4 _ _ hf)) (by rw[aX];exact aF _)
   ·rintro j ys H4 hj ⟨_,s4,e⟩ v H5 ⟨eH,OG⟩;subst eH;have hv:=OG _ (av.of (s4 _ _ hf));rw[fw,bb hj]at hv;cases hv;refine ar _ rfl (vr rfl ⟨by show 3<=aP;decide,(λtp ht=>⟨hj,aH s4 ht,?_⟩)⟩);rw[lj,bb hj,km];exact nR (Paired.b8 e λ_ _ q=>q.keep λb xs e=>aH (af.refl _) ht _ _ e) (ar tp rfl au)
   ·rintro ys H4 ⟨_,s4,e⟩;rw[iE (aF _)]at e;refine⟨by rw[Paired.length e,aX];exact cO (c9 li),λrl jD=>?_⟩;have s5:=aH (o:=.lst ys) s4 jD;have OC:=s5 _ _ (Oq.ml Ab);have cl:=DO S.kd (S.ck.zipIdx.take i);rw[ff]at cl;have Gj:=Paired.length oG;refine⟨lw,rl,vs,ys,rfl,rfl,OC,au,?_,hi,(sv _ _ (gD _ rfl ?_ ?_ au ?_))⟩
    ·rw[Gj,Paired.length e,aX];exact cO (c9 li)
    ·have kk:aM gL H2 (upd H4 rl (.lst ys)):=Oq.trans (aM.of s5);refine⟨λb o nb nt eb=>?_,λb eb=>(sO.trans kk).t b ?_⟩
     ·have:b≠lw:=ba eb nw;rw[aj this];exact(sO.trans kk).k b o nb nt eb
     ·by_cases z:b=lw
      ·rw[z,au]at eb;cases eb
      ·rwa[aj z]at eb
    ·exact Kv OC (jd oN s5)
    ·have et:S.ck.zipIdx.take (i+1)=S.ck.zipIdx.take i++[(S.ck[i],i)]:=by
      rw[lj,List.getElem?_zipIdx,bb ZV];simp
     rw[et];unfold vD;rw[C9,Qd,abh,sY];have Gb:∀b xs,upd H4 rl (.lst ys) b=some (.tup xs)->upd (upd H4 rl (.lst ys)) lw (.lst (vs++ys)) b=some (.tup xs):=λb xs e=>by rw[aj (gj e OC (by intro z;cases z))];exact e
     exact Iw (Paired.b8 e λ_ _ q=>q.keep λb xs e=>Gb b xs (aH (af.refl _) jD _ _ e)) (Paired.b8 W9 λ_ _ q=>(q.keep Oq.nu).keep λb xs e=>Gb b xs (s5 _ _ e))
  ·rintro σ H1 ⟨_,c,y,vs,rfl,kp,jG,hw,oG⟩;rw[iE (by rw[P'];lia)]at oG;exact vr rfl (q H1 lw vs kp jG nw hw oG)
end
theorem xq{P:Program}{w:World}{K:W.Frag}{mg:Str->Option Value}{base:Heap}{k:Nat}{f:Addr}{fd:aV}{ps:List Str}{sp:Sp}(F:aw P w K mg base (dg P w) k f fd ps sp):aw P w K mg base az k f fd ps (λvs H Q _=>sp vs H Q λ_ _ _=>False):=
 ⟨λvs H Q E h=>F.len vs H Q _ h,λA outer s H args us vs Q E hr e0 hb hv hs=>wN (F.run A outer s H args us vs Q (λ_ _ _=>False) hr e0 hb hv hs) λr s' h=>by
  cases r with
  | error e=>
   obtain⟨ea,c,dd,T,H',_,_,_,_,_,aa⟩:=h;refine md aa λ_ _ _ _ _ q=>?_;exact q.elim
  | ok fl=>cases fl <;> exact h⟩
def KL(H H':Hp):Prop:=∀b o,(∀xs,o≠.lst xs)->H b=some o->H' b=some o
theorem KL.trans{H H1 H2:Hp}(a:KL H H1)(b:KL H1 H2):KL H H2:=λc o n e=>b c o n (a c o n e)
theorem KL.of{H H':Hp}(s:af H H'):KL H H':=λb o _ e=>s b o e
theorem KL.upd{H:Hp}{x:Addr}{xs:List V}{o:HO}(hx:H x=some (.lst xs)):KL H (upd H x o):=λb q n e=>by
 rw[aj λz=>?_]
 ·exact e
 ·rw[z,hx]at e;cases e;exact n _ rfl
theorem KL.lam{H H':Hp}(k:KL H H'){PT:Addr}{pos:Pos}{q:Str}(h:cJ PT pos q H):cJ PT pos q H':=by
 refine ah h λps hP hc=>?_;refine ar ps (k _ _ (λxs z=>by cases z) hP) ?_;rcases hc with e | ⟨c,e,hc⟩
 ·exact .inl e
 ·exact .inr (ar c e (k _ _ (λxs z=>by unfold zS at z;cases z) hc))
theorem KL.tup{H H':Hp}(k:KL H H'):∀b xs,H b=some (.tup xs)->H' b=some (.tup xs):=λb xs e=>k b _ (λys z=>by cases z) e
def rO(S:Mc)(n:Nat)(num d:Int):Mc:={ S with bd:=S.bd.set n num,ov:=S.ov.set n (S.ov.getD n []++[d]) }
def kE(S:Mc)(c n:Nat):Mc:=match S.ck[c]? with
 | none=>S
 | some k=>match (bV k.es n).head? with
  | none=>S
  | some e=>rO { S with ck:=S.ck.set c { k with es:=lN k.es n } } n e.num e.d
def Bw(S:Mc)(n:Nat):List V:=[.int (n:Nat),.int (S.bd.getD n 0),oV (S.ov.getD n []).getLast?]
theorem vi{α:Type}{l:List α}{n:Nat}{x d:α}(h:l[n]?=some x):l.getD n d=x:=by rw[pY,h];rfl
section
variable{t:aZ}{C CT:Addr}{u:nJ}
def KS(t:aZ)(C CT:Addr):Sp:=λvs H Q _=>∃m A S st n num d lab,vs=[.ref m,.ref st]/\aU t C CT H m A S/\jk lab m A/\H st=some (.tup [.int (n:Nat),.int num,.int d])/\n<12/\S.bd.length=12/\S.ov.length=12/\(∀o∈S.ov,o.length<=16000)/\
 ∀H',aU t C CT H' m A (rO S n num d)->aM (bG m A) H H'->KL H H'->Q .aJ H'
theorem UY:bg ["self","setting","name"] ["self","setting"] (aQ Mb):=bu
theorem xv{n j:Nat}(h:j<n):qF n (j:Int)=some j:=by
 unfold qF
 first | (rw[if_pos li];simp;done) | (simp;exact w0)
theorem aiB{f:Addr}{fd:aV}(F:aW K "come" "Machine.come" Mb f fd)(cM:gw K C):aw P w K mg base az 1 f fd ["self","setting"] (KS t C CT):=by
 refine F.ok UY (λvs H Q E h=>?_) λaI A _ s H vs Q E hr h=>?_
 ·obtain⟨m,A,S,st,n,num,d,lab,aa,_⟩:=h;subst aa;rfl
 ·obtain⟨m,A,S,st,n,num,d,lab,aa,M,bc⟩:=h;subst aa;obtain⟨L,cR,hn,hb,ho,kX,q⟩:=bc;refine⟨_,ax (bZ (i:=2) UY.nd rfl (aR rfl) (aT du (pv 1) ay)) (ax (zg (aT du (pv 1) ay) (zl (a6 (pv 0) rfl) (pv 2) set_list)) (aB (dQ (mh PySem.F.plainAttrs_list PySem.F.slot_list_append PySem.F.type_list_append oZ (aT cI (a6 (pv 0) rfl) (pv 2)) (ae (aT du (pv 1) ay) ag))))),?_⟩;refine a9 (id M.obj) λdx fs hm G=>?_;refine kQ (j:=0) rfl cR rfl ?_;refine kQ (j:=1) rfl cR rfl ?_;refine vF rfl hm cM.cl cM.cells G.cells (vr rfl (qd A.ce _ _ n rfl rfl M.ce (xv (by rw[aX,hb];exact hn)) ?_));have M1:=al3 M L n num;have k1:aM (bG m A) H (upd H A.ce (.lst ((S.bd.map V.int).set n (.int num)))):=aM.upd .ce;have l1:KL H (upd H A.ce (.lst ((S.bd.map V.int).set n (.int num)))):=KL.upd M.ce;generalize upd H A.ce (.lst ((S.bd.map V.int).set n (.int num)))=H1 at M1 k1 l1 ⊢;refine a9 (id M1.obj) λlh gX iy G1=>?_;have kY:S.ov[n]?=some (S.ov[n]'wg):=bb wg;refine ah (M1.over kY) λa ha pV=>?_;refine ar _ rfl (cY m C lh gX (g9 _ rfl iy cM.cl cM.jN G1.jN (vr rfl (rL (v:=.ref a) (av.of M1.cm) (iY ha) ⟨.inl ⟨rfl,_,av.of pV⟩,(kQ (j:=2) rfl ((l1.tup _ _ cR)) rfl ?_)⟩))));have hol:=kX _ (cQ kY);refine sv a _ (gD _ rfl rfl pV (by rw[aX,lu];exact wb) ?_);have M2:=al1 M1 L kY ha d;refine q _ ?_ (k1.trans (aM.upd (.cs (cQ ha)))) (l1.trans (KL.upd pV));unfold rO;rw[vi kY];exact M2
def IT(t:aZ)(C CT:Addr):Sp:=λvs H Q _=>∃m A S n,vs=[.ref m,.int (n:Nat)]/\aU t C CT H m A S/\n<12/\S.bd.length=12/\S.ov.length=12/\∀tp,H tp=none->Q (.ref tp) (upd H tp (.tup (Bw S n)))
theorem RG:bg ["self","name","comers"] ["self","name"] (aQ Jy):=bu
theorem adW{f:Addr}{fd:aV}(F:aW K "on_board" "Machine.on_board" Jy f fd)(cM:gw K C)(gd:mg "len" = none):aw P w K mg base az 1 f fd ["self","name"] (IT t C CT):=by
 refine F.ok RG (λvs H Q E h=>?_) λaI A _ s H vs Q E hr h=>?_
 ·refine ph h λm A S n aa _=>?_;clear h;subst aa;rfl
 ·obtain⟨m,A,S,n,aa,M,hn,hb,ho,q⟩:=h;subst aa;refine⟨_,ax (bZ (i:=2) RG.nd rfl (aR rfl) (aT cI (a6 (pv 0) rfl) (pv 1))) (aB (a8 (eR (ae (pv 1) (ae (aT cI (a6 (pv 0) rfl) (pv 1)) (ae (SI (cw eC (cA iG rfl gd PySem.boot_len (ae (pv 2) ag)) ay (bU _)) rS (aT cI (pv 2) (VI UJ ay))) ag)))))),?_⟩;refine a9 (id M.obj) λdx fs hm G=>?_;have kY:S.ov[n]?=some (S.ov[n]'wg):=bb wg;have ZA:S.bd[n]?=some (S.bd[n]'wg):=bb wg;refine ah (M.over kY) λa ha pV=>?_
  have q':∀v,oV (S.ov[n]'wg).getLast?=v->∀tp,H tp=none->Q (.ref tp) (upd H tp (.tup [.int (n:Nat),.int (S.bd[n]'wg),v])):=λv hv tp ht=>by
   have q:=q tp ht;unfold Bw at q;rw[vi kY,vi ZA,hv]at q;exact q
  generalize S.ov[n]'wg=o at kY pV q';refine vF rfl hm cM.cl cM.jN G.jN (vr rfl (rL (v:=.ref a) (av.of M.cm) (iY ha) ?_));refine ar _ rfl (vF rfl hm cM.cl cM.cells G.cells (vr rfl (rL (av.of M.ce) (iY ZA) ?_)));refine vr rfl ⟨a,⟨_,rfl,.inl (av.of pV),rfl,_,rfl,cx (λz=>?_) λz=>?_⟩⟩
  ·have e0:o=[]:=by
    have z':V.int ((o.map V.int).length:Int)=V.int 0:=z;injection z' with z'
    rw[aX]at z';exact sW.mp li
   subst e0;exact⟨by show 3<=aP;decide,q' .aJ rfl⟩
  ·have i8:o≠[]:=λe=>z (by rw[e];rfl);obtain⟨o',d,rfl⟩:∃o' d,o=o'++[d]:=⟨o.dropLast,o.getLast i8,(List.dropLast_concat_getLast i8).symm⟩;refine vr rfl (ar _ rfl (rL (v:=.int d) (av.of pV) (by rw[km];exact Tq _ _) ⟨by show 3<=aP;decide,(q' (.int d) ?_)⟩));rw[List.getLast?_append];rfl
end
theorem mz.four{S:Mc}(w:mz S):S.ck.length<=4:=by rw[w.len];exact w.good.le
theorem mz.part{S:Mc}(w:mz S){c:Nat}{k:Ck}(h:S.ck[c]?=some k):∃p,S.ps[c]?=some p/\p.length<=120/\k.pl<=p.length/\∀s∈p,di p.length s:=by
 refine oE (eJ.mp h) λhc _=>?_;have hp:S.ps[c]?=some (S.ps[c]'(by rw[<-w.len];exact hc)):=bb _;refine oA (w.good.part _ (cQ hp)) λg1 g2=>?_;exact⟨_,hp,g1,(w.pl c k _ h hp),g2⟩
theorem Ug{S:Mc}{c:Nat}{k:Ck}{p:Pt}(h:S.ck[c]?=some k)(h':S.ps[c]?=some p):xB S c=sg k p:=by unfold xB;rw[h,h']
theorem JM(S:Mc)(n:Nat):(t7 S n).length<=n:=by
 unfold t7;rw[aX];exact cu (Hv _ _) (by rw[De];exact aF _)
theorem afB(S:Mc)(n:Nat):t7 S (n+1)=t7 S n++(if xB S n=true then [(("do" : Str),[(n:Int)])] else []):=by
 unfold t7;rw[yK,Dd,km]
 congr 1
 cases h:xB S n with
 | true=>simp[List.filter,h]
 | false=>simp[List.filter,h]
theorem ams:(["self","clerk"]:List Str).Nodup:=dk
section
variable{t:aZ}{C CT:Addr}{u:nJ}
def Bd(t:aZ)(C CT PT:Addr):Sp:=λvs H Q _=>∃m A S,vs=[.ref m]/\aU t C CT H m A S/\mz S/\cJ PT LP LQ H/\∀H' l vs,aM gL H H'->cJ PT LP LQ H'->H l=none->H' l=some (.lst vs)->Paired (gG H') vs (iL S)->Q (.ref l) H'
theorem af3:bg ["self"] ["self"] (aQ Kl):=bu
theorem aeU{f fY fC PT:Addr}{fd fdY lH:aV}(F:aW K "moves" "Machine.moves" Kl f fd)(cM:gw K C)(gd:mg "len" = none)(iw:mg "range" = none)
  (GY:aw P w K mg base az 2 fY fdY ["self","clerk"] (Tw t C CT)) (bY:Binds K fdY ["self","clerk"] []) (mY:Meth K C "may_do" fY)
  (GC:aw P w K mg base az 3 fC lH ["self"] (IU t C CT PT)) (bC:Binds K lH ["self"] []) (mC:Meth K C "carries" fC):aw P w K mg base az 4 f fd ["self"] (Bd t C CT PT):=by
 refine F.ok af3 (λvs H Q E h=>?_) λaI A _ s H vs Q E hr h=>?_
 ·refine eV h λm A S aa _=>?_;clear h;subst aa;rfl
 ·obtain⟨m,A,S,aa,M,W,hL,q⟩:=h;subst aa;have sR:=hr.mono (show 2<=3 by decide)
  refine⟨_,aB (a8 (a7 akv (ji (N:=["self","clerk"]) (idx:=[0]) rfl (dN.of (by kernel_rfl)) (je (aF _)) (wX rfl iw (ae (cA iG rfl gd PySem.boot_len (ae (a6 (pv 0) rfl) ag)) ag))
   (λ_ _ _ _=>de (i:=1) ams rfl (aR rfl) (.inr rfl)) (λ_ _ _ _=>D1 (iX (iK (pv 0) cM.cl mY GY sR bY .nil aS (ae (pv 1) ag)))) λ_ _ _ _=>eR (ae bw (ae (pv 1) ag)))
   (jr (pv 0) cM.cl mC GC hr bC .nil aS))),?_⟩
  refine a9 (id M.obj) λdx fs hm G=>?_;have hlen:A.ts.length=S.ck.length:=Paired.length M.ts;have h4:=W.four;refine vF rfl hm cM.cl cM.fh G.fh ⟨A.lt,⟨_,rfl,.inl (av.of M.lt),_,rfl,by rw[aX];lia,by rw[aX];lia,?_⟩⟩;have en:(((A.ts.map λx=>V.ref x.1).length:Int)).toNat=S.ck.length:=by rw[aX];lia
  rw[en];refine iW (n:=S.ck.length) (λi ys H'=>i<=S.ck.length/\af H H'/\Paired (gG H') ys (t7 S i)) ?_ ?_ ?_ ?_ ?_ ?_ ?_
  ·exact cO (c9 w4)
  ·exact iq (bX _) (af.refl _) .nil
  ·rintro i ys H' ⟨_,_,e⟩;rw[Paired.length e];exact JM S i
  ·rintro i ys H' hi _;exact hi
  ·rintro ys H' _;exact aF _
  ·rintro i ys H1 hi ⟨_,s1,e⟩ x H2 ⟨eH,ex⟩;subst eH;subst ex;have hk:S.ck[i]?=some S.ck[i]:=bb hi;refine gi (W.part hk) λp hp gQ ym hp3=>?_;refine vM rfl (s1 _ _ hm) (G.ms _ dk) (vr rfl (⟨m,A,S,i,_,p,?_,(M.same s1),hk,hp,w4,ym,(λs hs=>⟨_,hp3 s hs⟩),(λH3 s3=>(ar _ rfl ?_))⟩))
   ·show [V.ref m,V.int (0+(i:Int))]=_;rw[Ir]
   rw[afB,Ug hk hp];refine MW (λhb=>?_) λhb=>?_
   ·refine vr rfl ⟨by show 2<=aP;decide,(λtp ht=>⟨hi,s1.trans (aH s3 ht),?_⟩)⟩;rw[hb,if_pos rfl];refine nR (Paired.b8 e λ_ _ q=>q.keep λb xs e=>aH s3 ht _ _ e) (ar tp rfl ?_);rw[au];show some (HO.tup [.str "do",V.int (0+(i:Int))])=_;rw[Ir];rfl
   ·refine iq hi (s1.trans s3) ?_;rw[hb,if_neg dh,sY];exact Paired.b8 e λ_ _ q=>q.keep λb xs e=>s3 _ _ e
  ·rintro ys H1 ⟨_,s1,e⟩;have hd:=JM S S.ck.length;refine⟨by rw[Paired.length e];exact cO (c9 li),λr i7=>?_⟩;have s2:=aH (o:=.lst ys) s1 i7;refine vM rfl (s2 _ _ hm) (G.ms _ dk) (jh m A S rfl (M.same s2) h4 (jd hL s2) λH3 lc us k3 oN nc hc qO=>?_);have cl:=DO S.kd S.ck.zipIdx;rw[P']at cl;have pQ:=Paired.length qO
   have aqv:us.length<=48:=by
    rw[pQ];unfold iJ;lia
   refine iU r lc ys us rfl rfl (k3.ml au) hc ?_ λl3 n3=>?_
   ·rw[Paired.length e];exact cO (c9 li)
   have k4:aM gL H (upd H3 l3 (.lst (ys++us))):=((aM.of s2).trans k3).trans (aM.of (aH (af.refl _) n3));have hn:H l3=none:=((aM.of s2).trans k3).t l3 n3;refine q _ l3 _ k4 (jd oN (aH (af.refl _) n3)) hn au ?_;unfold iL;have kt:∀b xs,H3 b=some (.tup xs)->upd H3 l3 (.lst (ys++us)) b=some (.tup xs):=λb xs e=>aH (af.refl _) n3 _ _ e;exact Iw (Paired.b8 qO λ_ _ q=>q.keep kt) (Paired.b8 e λ_ _ q=>(q.keep λb xs e=>k3.nu _ _ (aH (af.refl _) i7 _ _ e)).keep kt)
end
theorem DF{H:Hp}{p:Addr}{xs:List V}(e:H p=some (.tup xs))(hl:xs.length<=1000)(hx:∀x∈xs,LC x=true):Told H (.ref p):=
 ⟨⟨_,tx e⟩,λys q=>by rw[gZ e]at q;cases q;exact⟨hl,hx⟩⟩
theorem aj5(t:Tl):(tv t).length=(Ew t).length:=by unfold tv Ew;simp
theorem V9:cD "put" = some [4,mm]:=by unfold cD;rw[if_pos rfl]
theorem amU:cD "add" = some [4,4]:=by unfold cD;rw[if_neg dk,if_pos rfl]
theorem amT:cD "set" = some [12,4]:=by unfold cD;rw[if_neg dk,if_neg dk,if_pos rfl]
theorem Vo:cD "look" = some [4,12]:=by unfold cD;rw[if_neg dk,if_neg dk,if_neg dk,if_pos rfl]
theorem alz:cD "swap" = some [4,12]:=by unfold cD;rw[if_neg dk,if_neg dk,if_neg dk,if_neg dk,if_pos rfl]
theorem ajZ:cD "clear" = some []:=by unfold cD;rw[if_neg dk,if_neg dk,if_neg dk,if_neg dk,if_neg dk,if_pos rfl]
theorem alA:cD "skip" = some [4,121]:=by unfold cD;rw[if_neg dk,if_neg dk,if_neg dk,if_neg dk,if_neg dk,if_neg dk,if_pos rfl]
theorem zr{x:Str}{a b:Nat}{u v:Int}(e:cD x=some [u,v])(h1:(a:Int)<u)(h2:(b:Int)<v):stepOk [.str x,.int a,.int b]=true:=by
 show (match cD x with | none=>false | some bs=>decide ([V.int a,V.int b].length=bs.length)&&([V.int a,V.int b].zip bs).all λp=>kN p.1 p.2)=true;rw[e];show (decide (2=2)&&((decide (0<=(a:Int))&&decide ((a:Int)<u))&&((decide (0<=(b:Int))&&decide ((b:Int)<v))&&true)))=true;rw[decide_eq_true h1,decide_eq_true h2,decide_eq_true (aaT a),decide_eq_true (aaT b)];rfl
theorem top_lt{m:Nat}(h:m<10^60):(m:Int)<mm:=by
 have e:((10^60:Nat):Int)=mm:=dk;rw[<-e];exact Int.ofNat_lt.mpr h
theorem RV{sz:Nat}{t:Tl}(g:di sz t):stepOk (tv t)=true:=by
 cases g with
 | put r m h1 h2=>exact zr V9 li (top_lt h2)
 | add r m h1 h2=>exact zr amU om li
 | set r m h1 h2=>exact zr amT li om
 | look r m h1 h2=>exact zr Vo om li
 | swap r m h1 h2=>exact zr alz om om
 | clear=>
  show (match cD "clear" with | none=>false | some bs=>decide (([]:List V).length=bs.length)&&(([]:List V).zip bs).all λp=>kN p.1 p.2)=true;rw[ajZ];rfl
 | skip r m h1 h2 h3=>exact zr alA li li
theorem QS:∀w∈Ec,lJ w=true:=by unfold Ec;decide +kernel
theorem jO.told{H:Hp}{v:V}{t:Tl}{sz:Nat}(h:jO H v t)(g:di sz t):Told H v:=by
 obtain⟨a,rfl,ha⟩:=h;refine DF ha ?_ ?_
 ·rw[aj5];have:=aeq g;lia
 ·intro x hx;rcases bq.mp hx with e | h1
  ·subst e;exact QS _ g.word
  ·obtain⟨n,_,rfl⟩:=rB.mp h1;rfl
theorem jO.fits{H:Hp}{v:V}{t:Tl}{sz i:Nat}(h:jO H v t)(g:di sz t)(hi:i<120):fj H v i sz=true:=by
 obtain⟨a,rfl,ha⟩:=h;unfold fj kD tG;rw[gZ ha];show (stepOk (tv t)&&_)=true;rw[RV g,decide_eq_true (show (i:Int)<120 by lia),oU,Bool.and_true];cases g with
 | skip r q h1 h2 h3=>
  show (!(decide ((("skip" : Str)) = "skip")&&decide ((sz:Int)<(q:Int))))=true;rw[decide_eq_false (show ¬(sz:Int)<(q:Int) by lia),HW];rfl
 | clear=>rfl
 | put r m _ _=>show (!(decide ((("put" : Str)) = "skip")&&_))=true;rw[decide_eq_false dk];rfl
 | add r m _ _=>show (!(decide ((("add" : Str)) = "skip")&&_))=true;rw[decide_eq_false dk];rfl
 | set r m _ _=>show (!(decide ((("set" : Str)) = "skip")&&_))=true;rw[decide_eq_false dk];rfl
 | look r m _ _=>show (!(decide ((("look" : Str)) = "skip")&&_))=true;rw[decide_eq_false dk];rfl
 | swap r m _ _=>show (!(decide ((("swap" : Str)) = "skip")&&_))=true;rw[decide_eq_false dk];rfl
theorem IK{H:Hp}{sz:Nat}:∀{vs:List V} {p:Pt} {c:Nat},Paired (jO H) vs p->(∀t∈p,di sz t)->c+vs.length<=120->gr H sz c vs=none
 | _,_,_,.nil,_,_=>rfl
 | _,_,c,.cons h t,g,hc=>by
  rw[fG]at hc;show (if fj H _ c sz=true then gr H sz (c+1) _ else some c)=none;rw[if_pos (h.fits (g _ (by simp)) li)];exact IK t (λt ht=>g t (dn _ ht)) li
theorem IsPart.view{H:Hp}{v:V}{p:Pt}(h:IsPart H v p):∃vs,cq H v=some vs/\Paired (jO H) vs p:=by
 obtain⟨a,vs,rfl,ha,r⟩:=h;exact⟨vs,gZ ha,r⟩
theorem HY{H:Hp}:∀{vs:List V} {ps:List Pt} {c:Nat},Paired (IsPart H) vs ps->(∀p∈ps,p.length<=120/\∀t∈p,di p.length t)->gC H c vs=none
 | _,_,_,.nil,_=>rfl
 | x::xs,p::ps,c,.cons h t,g=>by
  obtain⟨us,hv,r⟩:=h.view;obtain⟨g1,g2⟩:=g _ (dE ..);have hl:=Paired.length r;unfold gC;have e:dA H x=us:=by unfold dA;rw[hv];rfl
  rw[e,hl,IK r g2 li];exact HY t λp hp=>g p (dn _ hp)
theorem Dy{H:Hp}{v:V}{ps:List Pt}(h:qm H v ps)(g:qu ps):qq H v/\ik H v=true/\∀xs,cq H v=some xs->gC H 0 xs=none:=by
 obtain⟨a,vs,rfl,ha,r⟩:=h;have hl:=Paired.length r;have g1:=g.le;have g2:=g.ne;refine⟨⟨⟨_,tx ha⟩,λxs e=>?_⟩,?_,λxs e=>?_⟩
 ·rw[gZ ha]at e;cases e;refine⟨li,λx hx=>?_⟩;obtain⟨p,hp,b,us,rfl,hb,q⟩:=lK r hx;obtain⟨g3,g4⟩:=g.part p hp;have mV:=Paired.length q;refine⟨⟨_,tx hb⟩,λys e=>?_⟩;rw[gZ hb]at e;cases e;refine⟨li,λy hy=>?_⟩;obtain⟨t,ht,jV⟩:=lK q hy;exact jV.told (g4 t ht)
 ·unfold ik;rw[gZ ha];show ((decide (1<=vs.length)&&decide (vs.length<=4))&&vs.all λx=>(cq H x).isSome)=true;rw[decide_eq_true li,decide_eq_true li,oU,oU,yI];intro x hx;obtain⟨p,hp,hq⟩:=lK r hx;obtain⟨us,e,_⟩:=hq.view;rw[e];rfl
 ·rw[gZ ha]at e;cases e;exact HY r g.part
structure Own(H0:Hp)(m:Addr)(H:Hp)(R:Addr->Nat->Prop):Prop where
 l:∃lab:Addr->Nat,∀a v,R a v->lab a=v
 p:∀a v,R a v->H a≠none
 f:∀a v,R a v->a=m\/H0 a=none
 t:∀b,H b=none->H0 b=none
section
variable{H0 H H':Hp}{m:Addr}{R R':Addr->Nat->Prop}
theorem Own.keep(h:Own H0 m H R)(k:∀b,H' b=none->H b=none):Own H0 m H' R:=⟨h.l,λa v r z=>h.p a v r (k a z),h.f,λb z=>h.t b (k b z)⟩
theorem Own.adds(h:Own H0 m H R)(k:∀b,H' b=none->H b=none){B:Addr->Prop}{n:Nat}(hB:∀b,B b->H b=none)(CI:∀b,B b->H' b≠none):Own H0 m H' λa v=>R a v\/(B a/\v=n):=by
 obtain⟨⟨lab,h1⟩,h2,h3,h4⟩:=h
 classical
 refine⟨⟨λa=>if B a then n else lab a,λa v r=>?_⟩,λa v r=>?_,λa v r=>?_,λb z=>h4 b (k b z)⟩
 ·rcases r with r | ⟨r,rfl⟩
  ·show (if B a then n else lab a)=v;rw[if_neg λz=>h2 a v r (hB a z)];exact h1 a v r
  ·show (if B a then v else lab a)=v;rw[if_pos r]
 ·rcases r with r | ⟨r,rfl⟩
  ·exact λz=>h2 a v r (k a z)
  ·exact CI a r
 ·rcases r with r | ⟨r,rfl⟩
  ·exact h3 a v r
  ·exact .inr (h4 a (hB a r))
theorem Own.add(h:Own H0 m H R)(k:∀b,H' b=none->H b=none){b:Addr}{n:Nat}(hB:H b=none)(CI:H' b≠none):Own H0 m H' λa v=>R a v\/(a=b/\v=n):=
 h.adds k (B:=λa=>a=b) (λc z=>by rw[z];exact hB) (λc z=>by rw[z];exact CI)
theorem lz{H:Hp}{x:Addr}{o:HO}:∀b,upd H x o b=none->H b=none:=λb e=>by
 by_cases z:b=x
 ·rw[z,au]at e;cases e
 ·rwa[aj z]at e
theorem Own.new(h:Own H0 m H R){b:Addr}{n:Nat}{o:HO}(hB:H b=none):Own H0 m (upd H b o) λa v=>R a v\/(a=b/\v=n):=h.add lz hB (by rw[au];intro z;cases z)
end
structure aY(m:Addr)(H H':Hp):Prop where
 k:∀b o,b≠m->H b=some o->H' b=some o
 t:∀b,H' b=none->H b=none
theorem aY.of{m:Addr}{H H':Hp}(s:af H H'):aY m H H':=⟨λb o _ e=>s b o e,λb h=>s.free h⟩
theorem aY.trans{m:Addr}{H H1 H2:Hp}(a:aY m H H1)(b:aY m H1 H2):aY m H H2:=⟨λc o n e=>b.k c o n (a.k c o n e),λc h=>a.t c (b.t c h)⟩
theorem aY.upd{m:Addr}{H:Hp}{o:HO}:aY m H (upd H m o):=⟨λb q n e=>by rw[aj n];exact e,lz⟩
section
variable{t:aZ}{C CT:Addr}{u:nJ}
theorem r9.same{H H':Hp}{v:V}{s:Tl}(s':af H H')(h:r9 t H v s):r9 t H' v s:=h.keep λb C dx fs e _=>s' _ _ e
def RC(t:aZ):Sp:=λvs H Q _=>∃v p,vs=[v]/\IsPart H v p/\p.length<=120/\(∀s∈p,di p.length s)/\∀H' b us,af H H'->H b=none->H' b=some (.tup us)->Paired (r9 t H') us p->Q (.ref b) H'
theorem aeD:bg ["part"] ["part"] (aQ Jw):=bu
theorem aiF:(["told"]:List Str).Nodup:=dk
theorem Ii{α β:Type}{F:α->β->Prop}{x:α}{y:β}(h:F x y):∀{l:List α} {r:List β},Paired F l r->Paired F (l++[x]) (r++[y])
 | _,_,.nil=>.cons h .nil
 | _,_,.cons g t=>.cons g (Ii h t)
theorem uS{α β:Type}{F:α->β->Prop}:∀{l:List α} {r:List β} {i:Nat} {x:α},Paired F l r->l[i]?=some x->∃y,r[i]?=some y/\F x y
 | _,_,_,_,.nil,e=>by simp at e
 | _,_,0,_,.cons h _,e=>by simp at e;subst e;exact⟨_,rfl,h⟩
 | _,_,i+1,x,.cons _ t,e=>by
  obtain⟨y,h1,h2⟩:=uS (i:=i) t (by simpa using e);exact⟨y,by simpa using h1,h2⟩
theorem adU{f:Addr}{fd:aV}{cN:Addr}(F:aW K "steps_of" "steps_of" Jw f fd)(T:qk K mg t)(xc:XC K cN)(mX:mg "NoStep" = some (.ref cN))(pR:mg "tuple" = none):aw P w K mg base az 5 f fd ["part"] (RC t):=by
 have GX0:aw P w K mg base (dg P w) 4 t.fO t.ue ["told"] (Ka t cN):=SM T xc mX;have GX:=xq GX0;refine F.ok aeD (λvs H Q E h=>?_) λaI A _ s H vs Q E hr h=>?_
 ·obtain⟨v,p,rfl,_⟩:=h;rfl
 ·obtain⟨v,p,rfl,⟨a,vs,rfl,ha,hp⟩,hl,hg,k⟩:=h
  refine⟨_,aB (a8 (jg AG rfl pR uU (ae (ji (N:=["told"]) (idx:=[]) rfl (dN.of (by kernel_rfl)) (je (bX _)) (tM (pv 0))
   (λ_ _ _ _=>de (i:=0) aiF rfl (aR rfl) (.inr rfl)) (λ_ _ _ _=>jt) λ_ _ _ _=>dF GX hr rfl T.mO T.NT.kp T.bO .nil aS (ae (pv 0) ag)) ag))),?_⟩
  have hlen:=Paired.length hp;refine⟨_,rfl,a,rfl,⟨_,aE.of ha⟩,?_⟩;refine iW (n:=vs.length) (λi ys H'=>i<=vs.length/\af H H'/\Paired (r9 t H') ys (p.take i)) ?_ ?_ ?_ ?_ ?_ ?_ ?_
  ·exact cO (c9 li)
  ·exact⟨bX _,af.refl _,.nil⟩
  ·rintro i ys H' ⟨_,_,e⟩;rw[Paired.length e,ff];lia
  ·rintro i ys H' hi ⟨_,s1,_⟩;exact⟨_,_,aE.of (s1 _ _ ha),bb hi⟩
  ·rintro ys H' ⟨_,s1,_⟩;exact⟨_,aE.of (s1 _ _ ha),aF _⟩
  ·rintro i ys H1 hi ⟨_,s1,e⟩ z H2 ⟨eH,da⟩;subst eH;have hz:=da _ (aE.of (s1 _ _ ha));obtain⟨st,cR,hI⟩:=uS hp hz;have Z5:=hg st (cQ cR);have Z4:jO H2 z st:=hI.keep λb xs e=>s1 _ _ e;have told:=Z4.told Z5;obtain⟨b,rfl,hb⟩:=Z4;dsimp only[jS,ij];rw[if_pos rfl];refine⟨_,rfl,.ref b,"tuple",rfl,tx hb,λxs hv=>⟨(told.2 xs hv).1,λx hx=>(Up ((told.2 xs hv).2 x hx)).1⟩,λa' x ps ea hx aG z dx H3 s3 Gg Gf=>?_,λhf=>?_⟩
   ·injection ea with ea
    subst ea;rw[hb]at hx;cases hx;refine⟨hi,s1.trans s3,?_⟩;rw[lj,cR];exact Ii ⟨z,b,dx,rfl,Gf⟩ (Paired.b8 e λ_ _ q=>q.same s3)
   ·have e1:kD H2 (.ref b)=true:=by
     unfold kD;rw[gZ hb];exact RV Z5
    rw[e1]at hf;cases hf
  ·rintro ys H1 ⟨_,s1,e⟩;have hle:=Paired.length e;rw[ff]at hle;refine⟨cO (c9 li),λr i7=>⟨r,ys,rfl,.inl ⟨av.of au,λl hl=>?_⟩⟩⟩;have s2:=aH (o:=.lst ys) s1 i7;have s3:=aH (o:=.tup ys) s2 hl;rw[iE li]at e;exact k _ l ys s3 (s2.free hl) au (Paired.b8 e λ_ _ q=>(q.same (aH (af.refl _) i7)).same (aH (af.refl _) hl))
end
structure vH(K:W.Frag)(x qual:Str)(st:Stmt)(f:Addr)(fd:aV)(d:Str):Prop where
 ex:∃(oc:Value) (od:Option Addr) (T:Addr) (kV doc pm:Value) (an:Option Addr) (aI ct:Value) (iN:Array (Option Value)) (c1:Value) (d1:Option Addr) (n1:Nat) (sG:Array (Option Value)) (tk:Nat),fd=W.fnOf x qual (ma st) (hX st) (aQ st) (.ref T) kV doc pm an aI ct/\K.lookup f=some ⟨oc,od,.func fd,iN⟩/\W.codeIn K aI qual=true/\K.lookup T=some ⟨c1,d1,.seq #[.str d tk] n1,sG⟩
 kp:W.keepIn K (.ref f)=true
def k0:Ck:=⟨0,0,[0,0,0,0],0,[]⟩
def tZ(kd:Str)(ps:List Pt):Mc:=⟨kd,ps,ps.map λ_=>k0,dw 12 0,[],dw 12 []⟩
theorem Ij{α β γ:Type}{F:α->β->Prop}{y:β}:∀{l:List α} {r:List γ},l.length=r.length->(∀x∈l,F x y)->Paired F l (r.map λ_=>y)
 | [],[],_,_=>.nil
 | [],_::_,h,_=>by cases h
 | _::_,[],h,_=>by cases h
 | x::l,z::r,h,g=>.cons (g x (by simp)) (Ij (by simpa using h) λx hx=>g x (dn _ hx))
theorem Q8{α β:Type}{F:α->β->Prop}{y:β}:∀{l:List α} {n:Nat},l.length=n->(∀x∈l,F x y)->Paired F l (dw n y)
 | [],0,_,_=>.nil
 | [],_+1,h,_=>by cases h
 | _::_,0,h,_=>by cases h
 | x::l,n+1,h,g=>.cons (g x (by simp)) (Q8 (by simpa using h) λx hx=>g x (dn _ hx))
theorem VR:(["kind","part"]:List Str).Nodup:=dk
theorem EG:(["part"]:List Str).Nodup:=dk
theorem amt:(["name"]:List Str).Nodup:=dk
theorem y0{α:Type}{l:List α}{x y:α}{i:Nat}(h:(l++[x])[i]?=some y):l[i]?=some y\/(i=l.length/\y=x):=by
 by_cases hi:i<l.length
 ·left;rwa[Aw hi]at h
 ·right
  rw[Au li]at h
  by_cases e:i-l.length=0
  ·rw[e]at h;simp at h;exact⟨li,h.symm⟩
  ·rw[P0 (by simp;lia)]at h;cases h
theorem Own.nx{H0 H:Hp}{m b:Addr}{R:Addr->Nat->Prop}{o:HO}(n:Nat)(h:Own H0 m H R)(hB:H b=none):∃R',Own H0 m (upd H b o) R'/\(∀a v,R a v->R' a v)/\R' b n:=⟨_,h.new (n:=n) hB,λa v z=>.inl z,.inr ⟨rfl,rfl⟩⟩
theorem Own.XT{H0 H H':Hp}{m:Addr}{R:Addr->Nat->Prop}(n:Nat)(B:Addr->Prop)(h:Own H0 m H R)(k:∀b,H' b=none->H b=none)(hB:∀b,B b->H b=none)(CI:∀b,B b->H' b≠none):∃R',Own H0 m H' R'/\(∀a v,R a v->R' a v)/\∀b,B b->R' b n:=⟨_,h.adds (n:=n) k hB CI,λa v z=>.inl z,λb z=>.inr ⟨z,rfl⟩⟩
theorem aY.tup{m C dx:Addr}{fs:List (Str×V)}{H H':Hp}(k:aY m H H')(hm:H m=some (.ins C dx fs)):∀b xs,H b=some (.tup xs)->H' b=some (.tup xs):=λb xs e=>k.k b _ (λz=>by rw[z,hm]at e;cases e) e
theorem aY.lst{m C dx:Addr}{fs:List (Str×V)}{H H':Hp}(k:aY m H H')(hm:H m=some (.ins C dx fs)){b:Addr}{xs:List V}(e:H b=some (.lst xs)):H' b=some (.lst xs):=k.k b _ (λz=>by rw[z,hm]at e;cases e) e
theorem jw{x:Str}{v:V}{fs lY:List (Str×V)}(e:lY=aD x v fs):lY.lookup x=some v:=by rw[e,eP,if_pos rfl]
theorem aA{x y:Str}{v:V}{r:Option V}{fs lY:List (Str×V)}(h:fs.lookup y=r)(e:lY=aD x v fs)(n:y≠x):lY.lookup y=r:=by rw[e,eP,if_neg n];exact h
theorem Ta{K:W.Frag}{H h:Hp}{m C dx pg:Addr}{fs:List (Str×V)}{fld:Str}{bh:List V}{ps:List Pt}{D:Ends}{σ:L2.St}{R:Addr->Nat->Prop}{k:Nat}(n:Nat)(e0:σ[0]?=some (some (.ref m)))(e1:σ[1]?=some (some (.ref pg)))(hp:h pg=some (.tup bh))(hl:bh.length=ps.length)(h4:ps.length<=4)(hm:h m=some (.ins C dx fs))(cl:eh K C)(na:bj K C fld)(hf:fs.length<=k)(hk:k<900)(O:Own H m h R)
  (q:∀l h' f' R',f'=aD fld (.ref l) fs->f'.length<=k+1->h' m=some (.ins C dx f')->h' l=some (.lst (ps.map λ_=>V.int 0))->aY m h h'->Own H m h' R'->(∀a v,R a v->R' a v)->R' l n->D.nx σ h') :
  MS K (mj 0) (LY (WJ K (mj 1)) (ij 0) jS (tC (.int 0)) [] 1) fld D σ h:=by
 refine⟨_,e1,pg,rfl,⟨_,aE.of hp⟩,?_⟩;refine iW (n:=bh.length) (λi ys H'=>i<=bh.length/\H'=h/\ys=(ps.take i).map λ_=>V.int 0) ?_ ?_ ?_ ?_ ?_ ?_ ?_
 ·exact cO (c9 li)
 ·exact iq (bX _) rfl rfl
 ·rintro i ys H' ⟨_,_,e⟩;rw[e,aX,ff];lia
 ·rintro i ys H' hi ⟨_,rfl,_⟩;exact eW _ _ (aE.of hp) (bb hi)
 ·rintro ys H' ⟨_,rfl,_⟩;exact ar _ (aE.of hp) (aF _)
 ·rintro i ys H' hi ⟨_,rfl,e⟩ z fb ⟨eH,da⟩;subst eH;dsimp only[jS,ij];rw[if_pos rfl];refine iq hi rfl ?_;rw[lj,bb (show i<ps.length by lia),km,<-e];rfl
 rintro ys H' ⟨_,Pw,e⟩;subst Pw;rw[iE li]at e;subst e;refine⟨by rw[aX];exact cO (c9 li),λl nl=>?_⟩;have s1:af H' (upd H' l (.lst (ps.map λ_=>V.int 0))):=aH (af.refl _) nl;have g1:upd H' l (.lst (ps.map λ_=>V.int 0)) l=some (.lst (ps.map λ_=>V.int 0)):=au;obtain⟨R1,O1,i1,r1⟩:=O.nx (o:=.lst (ps.map λ_=>V.int 0)) n nl;have iy:=s1 _ _ hm;generalize upd H' l (.lst (ps.map λ_=>V.int 0))=v at s1 g1 O1 iy ⊢;refine⟨_,e0,m,C,dx,fs,rfl,iy,cl,na,li,?_⟩;have ku:aY m v (upd v m (.ins C dx (aD fld (.ref l) fs))):=aY.upd;exact q l _ _ R1 rfl (by have:=ko fld (V.ref l) fs;lia) au (ku.lst iy g1) ((aY.of s1).trans ku) (O1.keep (lz (H:=v) (x:=m))) i1 r1
section
variable{t:aZ}{C CT:Addr}{u:nJ}
theorem vH.ok{x qual d:Str}{st:Stmt}{f:Addr}{fd:aV}{N ps:List Str}{k:Nat}{sp:Sp}(F:vH K x qual st f fd d)(S:bg N ps (aQ st))(len:∀vs H Q E,sp vs H Q E->vs.length=ps.length)
  (qw:∀(aI:Value) (A:Around) (outer:List Env) (s:Shared) (H:Hp) (vs:List V) (Q:VK) (E:XK),dX k (A.deeper (envOfC qual (aQ st) s.heap.objs.size f aI))->sp vs H Q E->
   ∃t,eE (jj az P w K mg base N qual (aQ st) f aI A outer s H E).qE (hX st) t/\t { nx:=λ_ H'=>Q .aJ H',rt:=Q } (start N vs) H):aw P w K mg base az (k+1) f fd ps sp:=by
 refine l0 F.ex λoc od T kV doc pm an aI ct iN aa=>?_;obtain⟨c1,d1,n1,sG,tk,aa,lk,gU,_⟩:=aa;subst aa;refine tT lk gU S len λA outer s H vs Q E hr nM=>?_;refine ah (qw aI A outer s H vs Q E hr nM) λt h q=>?_;exact ar t h.qE q
theorem is3{us:List Value}(h:us.length=3):∃a b c,us=[a,b,c]/\True:=by
 cases us with
 | nil=>cases h
 | cons a l=>
  cases l with
  | nil=>cases h
  | cons b l=>exact oE (PZ.mp (Ip (Ip h))) λc z=>⟨a,b,c,by rw[z],trivial⟩
theorem aiO{f:Addr}{fd:aV}(F:vH K "__init__" "Machine.__init__" Bk f fd "row"):Binds K fd ["self","program","kind"] []:=by
 refine l0 F.ex λoc od T kV doc pm an aI ct iN aa=>?_;obtain⟨c1,d1,n1,sG,tk,aa,lk,gU,lT⟩:=aa;subst aa;intro s us hK hl;refine eV (is3 (by rw[sY]at hl;exact hl)) λa b c z _=>?_;subst z;exact W.binds_K hK rfl lT rfl rfl rfl
def Kb(t:aZ)(C CT:Addr):Sp:=λvs H Q _=>∃m dx v ps kd,vs=[.ref m,v,.str kd]/\H m=some (.ins C dx [])/\qm H v ps/\qu ps/\(kd = "row"\/kd = "name"\/kd = "none")/\
 ∀H' A lab,aU t C CT H' m A (tZ kd ps)->jk lab m A->v=.ref A.pg->aY m H H'->(∀b,bG m A b->b=m\/H b=none)->Q .aJ H'
theorem TX:bg ["self","program","kind"] ["self","program","kind"] (aQ Bk):=bu
theorem agq{f fK fT fS PT cC cP se:Addr}{fd CM nO ou:aV}(F:vH K "__init__" "Machine.__init__" Bk f fd "row")(cM:gw K C)(T:qk K mg t)(pR:mg "tuple" = none)(iw:mg "range" = none)
  (GK:aw P w K mg base (dg P w) 6 fK CM ["program"] (KR cC cP)) (kK:W.keepIn K (.ref fK)=true) (bK:Binds K CM ["program"] []) (mK:mg "look_over" = some (.ref fK))
  (GT:aw P w K mg base (dg P w) 3 fT nO ["kind"] (Jm CT PT se)) (kT:W.keepIn K (.ref fT)=true) (bT:Binds K nO ["kind"] []) (mT:mg "tray_of" = some (.ref fT))
  (GS:aw P w K mg base az 5 fS ou ["part"] (RC t)) (kS:W.keepIn K (.ref fS)=true) (bS:Binds K ou ["part"] []) (mS:mg "steps_of" = some (.ref fS)) :
  aw P w K mg base az 7 f fd ["self","program","kind"] (Kb t C CT):=by
 have GK0:=xq GK;have PJ:=xq GT;refine ah T.cn.names λuN mN rN=>?_;refine ah T.cn.dJ λuR mR rR=>?_;refine F.ok TX (λvs H Q E h=>?_) λaI A _ s H vs Q E hr h=>?_
 ·obtain⟨m,dx,v,ps,kd,aa,_⟩:=h;subst aa;rfl
 ·obtain⟨m,dx,v,ps,kd,aa,hm,hP,g,jF,q⟩:=h;subst aa;have pS:=hr.mono (show 3<=6 by decide);have uv:=hr.mono (show 5<=6 by decide)
  refine⟨_,ax (dQ (dF GK0 hr rfl mK kK bK .nil aS (ae (pv 1) ag))) (ax (dr (pv 0) (ji (N:=["kind","part"]) (idx:=[2]) rfl (dN.of (by kernel_rfl)) (je (aF _)) (tM (pv 1)) (λ_ _ _ _=>de (i:=1) VR rfl (aR rfl) (.inr rfl)) (λ_ _ _ _=>jt)
     λ_ _ _ _=>dF PJ pS rfl mT kT bT .nil aS (ae (pv 0) ag)) rfl)
   (ax (dr (pv 0) (pv 1) rfl) (ax (dr (pv 0) (pv 2) rfl) (ax (dr (pv 0) (jg AG rfl pR uU (ae (ji (N:=["part"]) (idx:=[]) rfl (dN.of (by kernel_rfl)) (je (bX _)) (tM (pv 1)) (λ_ _ _ _=>de (i:=0) EG rfl (aR rfl) (.inr rfl)) (λ_ _ _ _=>jt)
     λ_ _ _ _=>dF GS uv rfl mS kS bS .nil aS (ae (pv 0) ag)) ag)) rfl)
   (ax (dr (pv 0) (ji (N:=["part"]) (idx:=[]) rfl (dN.of (by kernel_rfl)) (je (bX _)) (tM (pv 1)) (λ_ _ _ _=>de (i:=0) EG rfl (aR rfl) (.inr rfl)) (λ_ _ _ _=>jt) λ_ _ _ _=>ay) rfl)
   (ax (dr (pv 0) (ji (N:=["part"]) (idx:=[]) rfl (dN.of (by kernel_rfl)) (je (bX _)) (tM (pv 1)) (λ_ _ _ _=>de (i:=0) EG rfl (aR rfl) (.inr rfl)) (λ_ _ _ _=>jt) λ_ _ _ _=>ay) rfl)
   (ax (dr (pv 0) (ji (N:=["part"]) (idx:=[]) rfl (dN.of (by kernel_rfl)) (je (bX _)) (tM (pv 1)) (λ_ _ _ _=>de (i:=0) EG rfl (aR rfl) (.inr rfl)) (λ_ _ _ _=>jt) λ_ _ _ _=>a7 U1 (dW (ae ay ag)) (fV rfl mR rR)) rfl)
   (ax (dr (pv 0) (a7 U1 (dW (ae ay ag)) (fV rfl mN rN)) rfl) (ax (dr (pv 0) (dW ag) rfl) (aB (dr (pv 0) (ji (N:=["name"]) (idx:=[]) rfl (dN.of (by kernel_rfl)) (je (bX _)) (wX rfl iw (ae (fV rfl mN rN) ag)) (λ_ _ _ _=>de (i:=0) amt rfl (aR rfl) (.inr rfl)) (λ_ _ _ _=>jt) λ_ _ _ _=>dW ag) rfl))))))))))),?_⟩
  refine gH (Dy hP g) λlk1 lk2 lk3=>?_;refine cG (id hP) λpg bh aa jX Gs=>?_;subst aa;refine vr rfl (⟨(.ref pg),rfl,lk1,(λy=>absurd (lk2.symm.trans y) qc),(λ_ xs lW=>⟨λ_ H1 s1=>?_,λc p y=>absurd ((lk3 xs lW).symm.trans y) (by intro z;cases z)⟩)⟩);have dO:bh.length=ps.length:=Paired.length Gs;have hle:=g.le;have npm:pg≠m:=gj jX hm (by intro z;cases z);have iy:=s1 _ _ hm;obtain⟨R0,o0,r0⟩:∃R,Own H m H1 R/\R m 2:=⟨λa v=>a=m/\v=2,⟨⟨λ_=>2,λa v z=>z.2.symm⟩,λa v z e=>(by rw[z.1,iy]at e;cases e),λa v z=>.inl z.1,λb z=>s1.free z⟩,rfl,rfl⟩
  have zL:V.str kd=.str "row"\/V.str kd=.str "name"\/V.str kd=.str "none":=by
   rcases jF with e | e | e
   ·exact .inl (by rw[e])
   ·exact .inr (.inl (by rw[e]))
   ·exact .inr (.inr (by rw[e]))
  refine ar _ rfl (c8 pg rfl ⟨_,aE.of (s1 _ _ jX)⟩ ?_);refine iW (n:=bh.length) (λi ys H'=>i<=bh.length/\∃ts:List (Addr×Addr×List Addr),ys=(ts.map λx=>V.ref x.1)/\ts.length=i/\af H1 H'/\(∀x∈ts,c7 H' x.1 CT kd 0 [] x.2.1 x.2.2)/\∃R,Own H m H' R/\(∀a v,R0 a v->R a v)/\∀j x,ts[j]?=some x->∀b∈x.1::x.2.1::x.2.2,R b (28+6*j)) ?_ ?_ ?_ ?_ ?_ ?_ ?_
  ·exact cO (c9 (by exact w8))
  ·exact⟨bX _,⟨[],rfl,rfl,af.refl _,λx hx=>(by cases hx),R0,o0,λ_ _ z=>z,λj x z=>(by simp at z)⟩⟩
  ·rintro i ys H' ⟨_,ts,rfl,rfl,_⟩;rw[aX];exact aF _
  ·rintro i ys H' hi ⟨_,ts,_,_,s2,_⟩;exact eW _ _ (aE.of ((s1.trans s2) _ _ jX)) (bb hi)
  ·rintro ys H' ⟨_,ts,_,_,s2,_⟩;exact ar _ (aE.of ((s1.trans s2) _ _ jX)) (aF _)
  ·rintro i ys H2 hi ⟨_,ts,rfl,rfl,s2,ht,R,o2,r2,r3⟩ z H3 ⟨eH,da⟩;subst eH;dsimp only[jS,ij];rw[if_pos rfl];refine vr rfl (qi (.str kd) ("str") rfl rfl (λ_ kd' H4 x q' qr e T4 k4 gf=>?_) λy=>y zL);injection e with e
   subst e;have s4:af H3 H4:=λb o e=>k4 b o (by simp) e
   obtain⟨R',o4,i4,n4⟩:=o2.XT (28+6*ts.length) (λb=>b∈x::q'::qr) (λb z=>s4.free z) gf (λb hb y=>by
    refine oE (T4.there b hb) λo e=>?_;rw[e]at y;cases y)
   refine⟨hi,⟨ts++[(x,q',qr)],by rw[km];rfl,by rw[cX];rfl,s2.trans s4,λy hy=>?_,R',o4,λa v z=>i4 a v (r2 a v z),λj y hy b hb=>?_⟩⟩
   ·rcases jo.mp hy with hy | hy
    ·exact(ht y hy).keep (λb _ o e=>s4 b o e) λb xs e=>s4 b _ e
    ·rw[gz.mp hy];exact T4
   ·rcases y0 hy with hy | ⟨e1,e2⟩
    ·exact i4 _ _ (r3 j y hy b hb)
    ·subst e1;subst e2;exact n4 b hb
  rintro ys H2 ⟨_,ts,rfl,sQ,s2,ht,R1,o2,i1,r1⟩;refine⟨by rw[aX];exact cO (c9 (by exact wu)),λlt B'=>?_⟩;have s3:af H2 (upd H2 lt (.lst (ts.map λx=>V.ref x.1))):=aH (af.refl _) B';have dB:upd H2 lt (.lst (ts.map λx=>V.ref x.1)) lt=some (.lst (ts.map λx=>V.ref x.1)):=au;refine aL (o2.nx (o:=.lst (ts.map λx=>V.ref x.1)) 4 B') λR2 o3 i2 r2=>?_;generalize upd H2 lt (.lst (ts.map λx=>V.ref x.1))=H3 at s3 dB o3 ⊢;have jY:=s3 _ _ (s2 _ _ iy);have T3:∀x∈ts,c7 H3 x.1 CT kd 0 [] x.2.1 x.2.2:=λx hx=>(ht x hx).keep (λb _ o e=>s3 b o e) λb xs e=>s3 b _ e;have K3:aY m H H3:=aY.of (s1.trans (s2.trans s3));refine vr rfl (iU m C dx ([]) rfl jY cM.cl cM.fh qc ?_);obtain⟨gX,kg⟩:∃f,f=aD "trays" (V.ref lt) []:=⟨_,rfl⟩
  have ZS:gX.length<=1:=by
   have:=ko "trays" (V.ref lt) [];rw[kg];exact this
  rw[<-kg];have k4:aY m H3 (upd H3 m (.ins C dx gX)):=aY.upd;have sS:upd H3 m (.ins C dx gX) m=some (.ins C dx gX):=au;have o4:=o3.keep (lz (H:=H3) (x:=m) (o:=.ins C dx gX));generalize upd H3 m (.ins C dx gX)=H4 at k4 sS o4 ⊢;have K4:=K3.trans k4;refine ar _ rfl ?_;refine vr rfl (iU m C dx gX rfl sS cM.cl cM.program (by exact wb) ?_);obtain⟨jH,jI⟩:∃f,f=aD "program" (V.ref pg) gX:=⟨_,rfl⟩
  have ZR:jH.length<=2:=by
   have:=ko "program" (V.ref pg) gX;rw[jI];exact xh
  rw[<-jI];have k5:aY m H4 (upd H4 m (.ins C dx jH)):=aY.upd;have ZD:upd H4 m (.ins C dx jH) m=some (.ins C dx jH):=au;have o5:=o4.keep (lz (H:=H4) (x:=m) (o:=.ins C dx jH));generalize upd H4 m (.ins C dx jH)=H5 at k5 ZD o5 ⊢;have K5:=K4.trans k5;refine ar _ rfl ?_;refine vr rfl (iU m C dx jH rfl ZD cM.cl cM.kind (by exact wb) ?_);obtain⟨i6,jn⟩:∃f,f=aD "kind" (V.str kd) jH:=⟨_,rfl⟩
  have ZQ:i6.length<=3:=by
   have:=ko "kind" (V.str kd) jH;rw[jn];exact xh
  rw[<-jn];have k6:aY m H5 (upd H5 m (.ins C dx i6)):=aY.upd;have GG:upd H5 m (.ins C dx i6) m=some (.ins C dx i6):=au;have o6:=o5.keep (lz (H:=H5) (x:=m) (o:=.ins C dx i6));generalize upd H5 m (.ins C dx i6)=H6 at k6 GG o6 ⊢;have K6:=K5.trans k6;have Fi:=K6.tup hm _ _ jX;refine ar _ rfl (c8 pg rfl ⟨_,aE.of Fi⟩ ?_);refine iW (n:=bh.length) (λi ys H'=>i<=bh.length/\af H6 H'/\Paired (zf t H') ys (ps.take i)) ?_ ?_ ?_ ?_ ?_ ?_ ?_
  ·exact cO (c9 (by exact w8))
  ·exact iq (bX _) (af.refl _) .nil
  ·rintro i ys H' ⟨_,_,e⟩;rw[Paired.length e,ff];exact xl
  ·rintro i ys H' hi ⟨_,s,_⟩;exact eW _ _ (aE.of (s _ _ Fi)) (bb hi)
  ·rintro ys H' ⟨_,s,_⟩;exact ar _ (aE.of (s _ _ Fi)) (aF _)
  ·rintro i ys H' hi ⟨_,s7,e⟩ z fb ⟨eH,da⟩;subst eH;have hz:=da _ (aE.of (s7 _ _ Fi));refine ah (uS Gs hz) λp hp hI=>?_;refine oA (g.part p (cQ hp)) λg1 g2=>?_;dsimp only[jS,ij];rw[if_pos rfl];refine vr rfl (⟨z,p,rfl,((hI.keep (K6.tup hm)).keep λb xs e=>s7 _ _ e),g1,g2,(λH8 b us s8 nb hb qO=>⟨hi,s7.trans s8,?_⟩)⟩);rw[lj,hp];exact Ii ⟨b,us,rfl,hb,qO⟩ (Paired.b8 e λ_ _ q=>q.keep (λb xs e=>s8 _ _ e) λb C dx fs e _=>s8 _ _ e)
  rintro ys H7 ⟨_,s7,e7⟩;have ao2:=Paired.length e7;rw[ff]at ao2;rw[iE li]at e7;refine⟨cO (c9 li),λr7 nr7=>⟨r7,ys,rfl,.inl ⟨av.of au,λst zY=>?_⟩⟩⟩;have s8:af H7 (upd (upd H7 r7 (.lst ys)) st (.tup ys)):=aH (aH (af.refl _) nr7) zY;have cR:upd (upd H7 r7 (.lst ys)) st (.tup ys) st=some (.tup ys):=au;generalize upd (upd H7 r7 (.lst ys)) st (.tup ys)=H8 at s8 cR ⊢;have hs8:Paired (zf t H8) ys ps:=Paired.b8 e7 λ_ _ q=>q.keep (λb xs e=>s8 _ _ e) λb C dx fs e _=>s8 _ _ e;have FZ:=s7.trans s8;have Gz:=FZ _ _ GG;have o8:=o6.keep (λb z=>FZ.free z);have K8:=K6.trans (aY.of FZ);refine vr rfl (iU m C dx i6 rfl Gz cM.cl cM.steps (by exact wb) ?_);obtain⟨qY,ke⟩:∃f,f=aD "steps" (V.ref st) i6:=⟨_,rfl⟩
  have Pa:qY.length<=4:=by
   have:=ko "steps" (V.ref st) i6;rw[ke];exact xh
  rw[<-ke];have k9:aY m H8 (upd H8 m (.ins C dx qY)):=aY.upd;have ZC:upd H8 m (.ins C dx qY) m=some (.ins C dx qY):=au;have o9:=o8.keep (lz (H:=H8) (x:=m) (o:=.ins C dx qY));generalize upd H8 m (.ins C dx qY)=H9 at k9 ZC o9 ⊢;have K9:=K8.trans k9;have aoS:=K9.tup hm _ _ jX;refine Ta (ps:=ps) 6 rfl rfl aoS dO hle ZC cM.cl cM.places Pa qc o9 λpl H11 fs5 R3 lg OZ Xq Pp z5 o11 i10 YA=>?_;have K11:=K9.trans z5;have ans:=K11.tup hm _ _ jX;refine Ta (ps:=ps) 8 rfl rfl ans dO hle Xq cM.cl cM.counts OZ qc o11 λct H13 CJ R4 jm ZP Xp hct Y' o13 i12 Yz=>?_;have K13:=K11.trans Y';have MD:=K13.tup hm _ _ jX;refine ar _ rfl (c8 pg rfl ⟨_,aE.of MD⟩ ?_);refine iW (n:=bh.length) (λi ys H'=>i<=bh.length/\∃rs:List Addr,ys=rs.map V.ref/\rs.length=i/\af H13 H'/\(∀a∈rs,H' a=some (.lst (([0,0,0,0]:List Int).map V.int)))/\∃R,Own H m H' R/\(∀a v,R4 a v->R a v)/\∀(j:Nat) a,rs[j]?=some a->R a (24+6*j)) ?_ ?_ ?_ ?_ ?_ ?_ ?_
  ·exact cO (c9 (by exact w8))
  ·exact⟨bX _,⟨[],rfl,rfl,af.refl _,λx hx=>(by cases hx),R4,o13,λ_ _ z=>z,λj x z=>(by simp at z)⟩⟩
  ·rintro i ys H' ⟨_,rs,rfl,rfl,_⟩;rw[aX];exact aF _
  ·rintro i ys H' hi ⟨_,rs,_,_,s,_⟩;exact eW _ _ (aE.of (s _ _ MD)) (bb hi)
  ·rintro ys H' ⟨_,rs,_,_,s,_⟩;exact ar _ (aE.of (s _ _ MD)) (aF _)
  ·rintro i ys H' hi ⟨_,rs,rfl,rfl,s,oH,R,oR,iR,N6⟩ z fb ⟨eH,da⟩;subst eH;dsimp only[jS,ij];rw[if_pos rfl];refine⟨qc,λy ny=>⟨y,4,_,rfl,rfl,au,qc,qc,qc,λx nx=>?_⟩⟩;have sy:af fb (upd fb y (.lst [.int 0])):=aH (af.refl _) ny;have oy:=oR.keep (λb z=>sy.free z);refine aL (oy.nx (o:=.lst (([0,0,0,0]:List Int).map V.int)) (24+6*rs.length) nx) λR' o' i' r'=>?_;have sx:af fb (upd (upd fb y (.lst [.int 0])) x (.lst (([0,0,0,0]:List Int).map V.int))):=aH sy nx;have hx:upd (upd fb y (.lst [.int 0])) x (.lst (([0,0,0,0]:List Int).map V.int)) x=some (.lst (([0,0,0,0]:List Int).map V.int)):=au;refine⟨hi,⟨rs++[x],by rw[km];rfl,by rw[cX];rfl,s.trans sx,λy hy=>?_,R',o',λa v z=>i' a v (iR a v z),λj y hy=>?_⟩⟩
   ·rcases jo.mp hy with hy | hy
    ·exact sx _ _ (oH y hy)
    ·rw[gz.mp hy];exact hx
   ·rcases y0 hy with hy | ⟨e1,e2⟩
    ·exact i' _ _ (N6 j y hy)
    ·subst e1;subst e2;exact r'
  rintro ys Hk ⟨_,rs,rfl,ao0,we,oH,R5,o14,i14,Yy⟩;refine⟨by rw[aX];exact cO (c9 (by exact wu)),λrg B9=>?_⟩;have sH:af Hk (upd Hk rg (.lst (rs.map V.ref))):=aH (af.refl _) B9;have iw:upd Hk rg (.lst (rs.map V.ref)) rg=some (.lst (rs.map V.ref)):=au;refine aL (o14.nx (o:=.lst (rs.map V.ref)) 10 B9) λR6 YL i15 Yx=>?_;generalize upd Hk rg (.lst (rs.map V.ref))=Aq at sH iw YL ⊢;have Nu:=sH _ _ (we _ _ Xp);have aoP:∀a∈rs,Aq a=some (.lst (([0,0,0,0]:List Int).map V.int)):=λa ha=>sH _ _ (oH a ha);have K15:=K13.trans (aY.of (we.trans sH));refine vr rfl (iU m C dx CJ rfl Nu cM.cl cM.dJ (by exact wb) ?_);obtain⟨uD,jb⟩:∃f,f=aD "regs" (V.ref rg) CJ:=⟨_,rfl⟩
  have ZO:uD.length<=7:=by
   have:=ko "regs" (V.ref rg) CJ;rw[jb];exact xh
  rw[<-jb];have Ov:aY m Aq (upd Aq m (.ins C dx uD)):=aY.upd;have Xo:upd Aq m (.ins C dx uD) m=some (.ins C dx uD):=au;have YK:=YL.keep (lz (H:=Aq) (x:=m) (o:=.ins C dx uD));generalize upd Aq m (.ins C dx uD)=Ap at Ov Xo YK ⊢;have K16:=K15.trans Ov;refine⟨qc,λy ny=>⟨y,12,_,rfl,rfl,au,qc,qc,qc,λce YV=>?_⟩⟩;have sy:af Ap (upd Ap y (.lst [.int 0])):=aH (af.refl _) ny;have oy:=YK.keep (λb z=>sy.free z);refine aL (oy.nx (o:=.lst ((dw 12 (0:Int)).map V.int)) 12 YV) λR7 YJ i17 Yw=>?_;have F5:af Ap (upd (upd Ap y (.lst [.int 0])) ce (.lst ((dw 12 (0:Int)).map V.int))):=aH sy YV;have wB:upd (upd Ap y (.lst [.int 0])) ce (.lst ((dw 12 (0:Int)).map V.int)) ce=some (.lst ((dw 12 (0:Int)).map V.int)):=au;rw[show (dw (12:Int).toNat [V.int 0]).flatten=(dw 12 (0:Int)).map V.int from rfl];generalize upd (upd Ap y (.lst [.int 0])) ce (.lst ((dw 12 (0:Int)).map V.int))=CY at F5 wB YJ ⊢;have Xn:=F5 _ _ Xo;have K17:=K16.trans (aY.of F5);refine vr rfl (iU m C dx uD rfl Xn cM.cl cM.cells (by exact wb) ?_);obtain⟨uB,iP⟩:∃f,f=aD "cells" (V.ref ce) uD:=⟨_,rfl⟩
  have ZN:uB.length<=8:=by
   have:=ko "cells" (V.ref ce) uD;rw[iP];exact xh
  rw[<-iP];have Ou:aY m CY (upd CY m (.ins C dx uB)):=aY.upd;have Xm:upd CY m (.ins C dx uB) m=some (.ins C dx uB):=au;have YI:=YJ.keep (lz (H:=CY) (x:=m) (o:=.ins C dx uB));generalize upd CY m (.ins C dx uB)=Hj at Ou Xm YI ⊢;have K18:=K17.trans Ou;refine⟨qc,λac YW=>?_⟩;have F2:af Hj (upd Hj ac (.lst [])):=aH (af.refl _) YW;have j':upd Hj ac (.lst []) ac=some (.lst []):=au;refine aL (YI.nx (o:=.lst []) 14 YW) λR8 YH i19 Yv=>?_;generalize upd Hj ac (.lst [])=CW at F2 j' YH ⊢;have Xl:=F2 _ _ Xm;have K19:=K18.trans (aY.of F2);refine vr rfl (iU m C dx uB rfl Xl cM.cl cM.iB (by exact wb) ?_);obtain⟨uA,gY⟩:∃f,f=aD "acts" (V.ref ac) uB:=⟨_,rfl⟩
  have ZM:uA.length<=9:=by
   have:=ko "acts" (V.ref ac) uB;rw[gY];exact xh
  rw[<-gY];have Ot:aY m CW (upd CW m (.ins C dx uA)):=aY.upd;have Xk:upd CW m (.ins C dx uA) m=some (.ins C dx uA):=au;have YG:=YH.keep (lz (H:=CW) (x:=m) (o:=.ins C dx uA));generalize upd CW m (.ins C dx uA)=H20 at Ot Xk YG ⊢;have K20:=K19.trans Ot;refine⟨12,rfl,qc,qc,?_⟩;rw[show (12:Int).toNat=12 from rfl];refine iW (n:=12) (λi ys H'=>i<=12/\∃rs:List Addr,ys=rs.map V.ref/\rs.length=i/\af H20 H'/\(∀a∈rs,H' a=some (.lst (([]:List Int).map V.int)))/\∃R,Own H m H' R/\(∀a v,R8 a v->R a v)/\∀(j:Nat) a,rs[j]?=some a->R a (26+6*j)) ?_ ?_ ?_ ?_ ?_ ?_ ?_
  ·exact cO (c9 li)
  ·exact⟨bX _,⟨[],rfl,rfl,af.refl _,λx hx=>(by cases hx),R8,YG,λ_ _ z=>z,λj x z=>(by simp at z)⟩⟩
  ·rintro i ys H' ⟨_,rs,rfl,rfl,_⟩;rw[aX];exact aF _
  ·rintro i ys H' hi ⟨_,rs,_,_,s,_⟩;exact hi
  ·rintro ys H' ⟨_,rs,_,_,s,_⟩;exact aF _
  ·rintro i ys H' hi ⟨_,rs,rfl,rfl,s,oH,R,oR,iR,N6⟩ z fb ⟨eH,da⟩;subst eH;dsimp only[jS,ij];rw[if_pos rfl];refine⟨qc,λx nx=>?_⟩;refine aL (oR.nx (o:=.lst (([]:List Int).map V.int)) (26+6*rs.length) nx) λR' o' i' r'=>?_;have sx:af fb (upd fb x (.lst (([]:List Int).map V.int))):=aH (af.refl _) nx;have hx:upd fb x (.lst (([]:List Int).map V.int)) x=some (.lst (([]:List Int).map V.int)):=au;refine⟨hi,⟨rs++[x],by rw[km];rfl,by rw[cX];rfl,s.trans sx,λy hy=>?_,R',o',λa v z=>i' a v (iR a v z),λj y hy=>?_⟩⟩
   ·rcases jo.mp hy with hy | hy
    ·exact sx _ _ (oH y hy)
    ·rw[gz.mp hy];exact hx
   ·rcases y0 hy with hy | ⟨e1,e2⟩
    ·exact i' _ _ (N6 j y hy)
    ·subst e1;subst e2;exact r'
  rintro ys Hi ⟨_,cs,rfl,Xr,N0,wA,R9,o21,i21,Yu⟩;refine⟨by rw[aX];exact cO (c9 (by exact w6)),λcm Cc=>?_⟩;have B8:af Hi (upd Hi cm (.lst (cs.map V.ref))):=aH (af.refl _) Cc;have ZU:upd Hi cm (.lst (cs.map V.ref)) cm=some (.lst (cs.map V.ref)):=au;refine aL (o21.nx (o:=.lst (cs.map V.ref)) 16 Cc) λuG YF i22 Yt=>?_;generalize upd Hi cm (.lst (cs.map V.ref))=Ao at B8 ZU YF ⊢;have Nt:=B8 _ _ (N0 _ _ Xk);have ao9:∀a∈cs,Ao a=some (.lst (([]:List Int).map V.int)):=λa ha=>B8 _ _ (wA a ha);have K22:=K20.trans (aY.of (N0.trans B8));refine vr rfl (iU m C dx uA rfl Nt cM.cl cM.jN (by exact wb) ?_);obtain⟨vO,oo⟩:∃f,f=aD "comers" (V.ref cm) uA:=⟨_,rfl⟩
  have aqy:vO.length<=10:=by
   have:=ko "comers" (V.ref cm) uA;rw[oo];exact xh
  rw[<-oo];have Cg:aY m Ao (upd Ao m (.ins C dx vO)):=aY.upd;have Xj:upd Ao m (.ins C dx vO) m=some (.ins C dx vO):=au;have pN:=YF.keep (lz (H:=Ao) (x:=m) (o:=.ins C dx vO));generalize upd Ao m (.ins C dx vO)=Hh at Cg Xj pN ⊢;have K23:=K22.trans Cg;have n20:=(aY.of (m:=m) (N0.trans B8)).trans Cg;have YY:=Ot.trans n20;have n18:=(aY.of (m:=m) F2).trans YY;have YZ:=Ou.trans n18;have n16:=(aY.of (m:=m) F5).trans YZ;have Ce:=Ov.trans n16;have Y0:=(aY.of (m:=m) (we.trans sH)).trans Ce;have Y1:=Y'.trans Y0;have n9:=z5.trans Y1;have n8:=k9.trans n9;have n6:=(aY.of (m:=m) FZ).trans n8;have n3:=k4.trans (k5.trans (k6.trans n6));have j9:=i22;have j8:∀a v,R8 a v->uG a v:=λa v z=>j9 _ _ (i21 _ _ z);have j7:∀a v,R7 a v->uG a v:=λa v z=>j8 _ _ (i19 _ _ z);have j6:∀a v,R6 a v->uG a v:=λa v z=>j7 _ _ (i17 _ _ z);have j5:∀a v,R5 a v->uG a v:=λa v z=>j6 _ _ (i15 _ _ z);have j4:∀a v,R4 a v->uG a v:=λa v z=>j5 _ _ (i14 _ _ z);have j3:∀a v,R3 a v->uG a v:=λa v z=>j4 _ _ (i12 _ _ z);have j2:∀a v,R2 a v->uG a v:=λa v z=>j3 _ _ (i10 _ _ z);have j1:∀a v,R1 a v->uG a v:=λa v z=>j2 _ _ (i2 _ _ z);have j0:∀a v,R0 a v->uG a v:=λa v z=>j1 _ _ (i1 _ _ z);refine oE pN.l λlab il=>?_;have lm:=il _ _ (j0 _ _ r0);have tk:i6.lookup ("trays" : Str)=some (V.ref lt):=aA (aA (jw kg) jI dk) jn dk;have aoJ:ts.length=ps.length:=by exact wo
  have jD:rs.length=ps.length:=by exact wo
  have no:∀x∈jv,vO.lookup x=none:=by
   intro x hx
   have n:∀y∈(["trays","program","kind","steps","places","counts","regs","cells","acts","comers"]:List Str),x≠y:=by
    intro y hy e;subst e
    revert hx
    revert x
    decide +kernel
   have hn:([]:List (Str×V)).lookup x=none:=rfl;exact aA (aA (aA (aA (aA (aA (aA (aA (aA (aA hn kg (n _ (by simp))) jI (n _ (by simp))) jn (n _ (by simp))) ke (n _ (by simp))) lg (n _ (by simp))) jm (n _ (by simp))) jb (n _ (by simp))) iP (n _ (by simp))) gY (n _ (by simp))) oo (n _ (by simp))
  have M:aU t C CT Hh m ⟨lt,ts,pg,st,pl,ct,rg,rs,ce,ac,cm,cs⟩ (tZ kd ps):=by
   refine⟨⟨dx,vO,Xj,?_⟩,n3.lst jY dB,?_,hP.keep (K23.tup hm),⟨ys,n8.tup Gz _ _ cR,?_⟩,?_,?_,Ce.lst Nu iw,?_,YZ.lst Xn wB,⟨[],YY.lst Xl j',.nil⟩,Cg.lst Nt ZU,?_⟩
   ·exact⟨aA (aA (aA (aA (aA (aA (aA (aA (aA (jw kg) jI dk) jn dk) ke dk) lg dk) jm dk) jb dk) iP dk) gY dk) oo dk,aA (aA (aA (aA (aA (aA (aA (aA (jw jI) jn dk) ke dk) lg dk) jm dk) jb dk) iP dk) gY dk) oo dk,aA (aA (aA (aA (aA (aA (aA (jw jn) ke dk) lg dk) jm dk) jb dk) iP dk) gY dk) oo dk,aA (aA (aA (aA (aA (aA (jw ke) lg dk) jm dk) jb dk) iP dk) gY dk) oo dk,aA (aA (aA (aA (aA (jw lg) jm dk) jb dk) iP dk) gY dk) oo dk,aA (aA (aA (aA (jw jm) jb dk) iP dk) gY dk) oo dk,aA (aA (aA (jw jb) iP dk) gY dk) oo dk,aA (aA (jw iP) gY dk) oo dk,aA (jw gY) oo dk,jw oo,no,by exact w4⟩
   ·refine Ij aoJ λx hx=>(T3 x hx).keep (λb hb o e=>n3.k b o (λz=>?_) e) (n3.tup jY);refine oE (wH hx) λj hj=>?_;have:=il _ _ (j1 _ _ (r1 j x hj b hb));rw[z,lm]at this;exact wk
   ·refine Paired.b8 hs8 λ_ _ q=>q.keep (n8.tup Gz) λb C' yB lY e h=>n8.k b _ (λz=>?_) e;refine eV h λx us v e1 e2=>?_;rw[z,Gz]at e;cases e;rw[e2,xj "trays" dk]at tk;cases tk
   ·have h:=Y1.lst Xq Pp;rw[h];show _=some (HO.lst ((ps.map λ_=>k0).map λk=>V.int (k.pl:Nat)));rw[yR];rfl
   ·have h:=Y0.lst Xp hct;rw[h];show _=some (HO.lst ((ps.map λ_=>k0).map λk=>V.int (k.ct:Nat)));rw[yR];rfl
   ·exact Ij (F:=λa (k:Ck)=>Hh a=some (.lst (k.rg.map V.int))) (y:=k0) jD λa ha=>Ce.lst Nu (aoP a ha)
   ·exact Q8 (F:=λa (o:List Int)=>Hh a=some (.lst (o.map V.int))) (y:=[]) Xr λa ha=>Cg.lst Nt (ao9 a ha)
  have L:jk lab m ⟨lt,ts,pg,st,pl,ct,rg,rs,ce,ac,cm,cs⟩:=⟨lm,il _ _ (j2 _ _ r2),il _ _ (j3 _ _ YA),il _ _ (j4 _ _ Yz),il _ _ (j6 _ _ Yx),il _ _ (j7 _ _ Yw),il _ _ (j8 _ _ Yv),il _ _ Yt,λi a z=>il _ _ (j5 _ _ (Yy i a z)),λi a z=>il _ _ (j9 _ _ (Yu i a z)),λi x z b hb=>il _ _ (j1 _ _ (r1 i x z b hb))⟩;refine q Hh _ lab M L rfl K23 λb hb=>?_;cases hb with
  | m=>exact .inl rfl
  | lt=>exact pN.f _ _ (j2 _ _ r2)
  | pl=>exact pN.f _ _ (j3 _ _ YA)
  | ct=>exact pN.f _ _ (j4 _ _ Yz)
  | rg=>exact pN.f _ _ (j6 _ _ Yx)
  | ce=>exact pN.f _ _ (j7 _ _ Yw)
  | ac=>exact pN.f _ _ (j8 _ _ Yv)
  | cm=>exact pN.f _ _ Yt
  | rs h=>
   refine oE (wH h) λj hj=>?_;exact pN.f _ _ (j5 _ _ (Yy j _ hj))
  | cs h=>
   refine oE (wH h) λj hj=>?_;exact pN.f _ _ (j9 _ _ (Yu j _ hj))
  | ts h h2=>
   refine oE (wH h) λj hj=>?_;exact pN.f _ _ (j1 _ _ (r1 j _ hj _ h2))
end
def vz(ns:List Int)(k:Int):Int:=ns.getD k.toNat 0
def zz(c k:Int):Int:=(c%2147483647+7919*k+1)*48271%2147483647
def Bs(c k:Int):Int:=zz c k*(zz c k/1009+69621)%2147483647
theorem akP(c k:Int):0<=zz c k/\zz c k<2147483647:=⟨sZ _ qc,uJ _ qc⟩
theorem agE(c k:Int):0<=Bs c k/\Bs c k<2147483647:=⟨sZ _ qc,uJ _ qc⟩
def UW(K:W.Frag):Sp:=λvs H Q _=>∃a ns k,vs=[.ref a,.int k]/\av K H a (ns.map V.int)/\0<=k/\Q (.int (vz ns k)) H
theorem akk:bg zLc zLc (aQ Kr):=bu
theorem aiq{f:Addr}{fd:aV}(F:aW K "_law_cell_at" "_law_cell_at" Kr f fd)(gd:mg "len" = none):aw P w K mg base az 1 f fd zLc (UW K):=by
 refine F.ok akk (λvs H Q E h=>?_) λaI A _ s H vs Q E hr h=>?_
 ·obtain⟨a,ns,k,rfl,_⟩:=h;rfl
 ·obtain⟨a,ns,j,rfl,ha,hj,k⟩:=h;refine⟨_,ax (cF (cw Bx (pv 1) (cA iG rfl gd PySem.boot_len (ae (pv 0) ag)) (bU _)) (aB (a8 (aT cI (pv 0) (pv 1)))) cU) (aB (a8 ay)),?_⟩;refine⟨_,rfl,_,rfl,a,_,rfl,.inl ha,_,_,rfl,rfl,_,rfl,cx (λh1=>?_) λh1=>?_⟩
  ·rw[aX]at h1;have dB:j.toNat<ns.length:=li;refine⟨_,rfl,_,rfl,a,_,j,.int (vz ns j),rfl,rfl,ha,?_,k⟩;have e:j=(j.toNat:Int):=li;rw[e];refine dG ?_;rw[fw,bb dB];unfold vz;rw[lZ,pY,bb dB];rfl
  ·rw[aX]at h1
   have e:vz ns j=0:=by
    unfold vz;rw[pY,P0 li];rfl
   rw[e]at k;exact k
def Ey:Sp:=λvs H Q _=>∃c j,vs=[.int c,.int j]/\Q (.int (Bs c j)) H
theorem VE:bg ["_law_cell","_law_k","_law_number"] zLb (aQ KZ):=bu
theorem akx{f:Addr}{fd:aV}(F:aW K "_law_mixed" "_law_mixed" KZ f fd):aw P w K mg base az 1 f fd zLb Ey:=by
 refine F.ok VE (λvs H Q E h=>?_) λaI A _ s H vs Q E hr h=>?_
 ·obtain⟨a,j,rfl,_⟩:=h;rfl
 ·obtain⟨c,j,rfl,k⟩:=h;refine⟨_,ax (bZ (i:=2) VE.nd rfl (aR rfl) (a7 fg (a7 Bp (a7 kz (a7 kz (a7 fg (pv 0) ay) (a7 Bp ay (pv 1))) ay) ay) ay)) (aB (a8 (a7 fg (a7 Bp (pv 2) (a7 kz (a7 jL (pv 2) ay) ay)) ay))),?_⟩;have hb:=akP c j;refine⟨_,rfl,_,_,rfl,rfl,(by show (0:Int)<2147483647;decide),_,rfl,_,_,rfl,rfl,.inl ⟨qc,qc⟩,_,_,rfl,rfl,_,_,rfl,rfl,_,_,rfl,rfl,.inr ⟨qc,qc⟩,_,_,rfl,rfl,(by show (0:Int)<2147483647;decide),?_⟩;refine⟨_,rfl,_,rfl,_,_,rfl,rfl,⟨qc,qc⟩,_,_,rfl,rfl,_,_,rfl,rfl,.inl ⟨?_,?_⟩,_,_,rfl,rfl,(by show (0:Int)<2147483647;decide),k⟩
  ·show -(2^64)<zz c j;lia
  ·show zz c j<2^64;lia
theorem xr(d:Int)(h:0<=d)(m:Int)(hm:0<m):∃r:Nat,d%m=(r:Int)/\(r:Int)<m:=by
 have h1:=sZ d (show m≠0 by lia);have h2:=uJ d hm;exact⟨(d%m).toNat,li,li⟩
theorem Mt{d m:Int}(h:0<=d)(hm:0<=m):0<=d/m:=Int.ediv_nonneg h hm
theorem Dw{H0 H:Hp}{r:Addr}{o:HO}(s:af H0 H)(h:H0 r=none):af H0 (upd H r o):=λb u e=>by
 rw[aj (ba e h)];exact s b u e
theorem afR(r:Nat)(h:(r:Int)<3):r<10^60:=by
 have:=JZ;lia
def Sr:Sp:=λvs H Q _=>∃(c:Int) (n:Nat),vs=[.int c,.int (n:Nat)]/\n<=100/\∀(H':Hp) (l:Addr) (ds:List Int),af H H'->H l=none->H' l=some (.lst (ds.map V.int))->ds.length=n->(∀d∈ds,(0:Int)<=d)->Q (.ref l) H'
theorem A7:bg ["_law_cell","_law_amount","_law_draws","_law_rest","_law_k"] zLe (aQ Kg):=bu
theorem aeR{f fM:Addr}{fd wF:aV}(F:aW K "_law_stream" "_law_stream" Kg f fd)(iw:mg "range" = none)
  (GM:aw P w K mg base az 1 fM wF zLb Ey) (kM:W.keepIn K (.ref fM)=true) (bM:Binds K wF zLb []) (mM:mg "_law_mixed" = some (.ref fM)):aw P w K mg base az 2 f fd zLe Sr:=by
 refine F.ok A7 (λvs H Q E h=>?_) λaI A _ s H vs Q E hr h=>?_
 ·obtain⟨c,n,rfl,_⟩:=h;rfl
 ·obtain⟨c,n,rfl,hn,q⟩:=h;refine⟨_,ax (bZ (i:=2) A7.nd rfl (aR rfl) (dW ag)) (ax (bZ (i:=3) A7.nd rfl (aR rfl) (a7 jL (pv 0) ay)) (ax (rQ uP rfl (wX rfl iw (ae (pv 1) ag)) (de (i:=4) A7.nd rfl (aR rfl)) (aB (cF (cw eC (a7 fg (pv 0) ay) ay (bU _)) (aB (dQ (mh PySem.F.plainAttrs_list PySem.F.slot_list_append PySem.F.type_list_append oZ (pv 2) (ae (dF GM hr rfl mM kM bM .nil aS (ae (pv 3) (ae (pv 4) ag))) ag)))) (ax (dQ (mh PySem.F.plainAttrs_list PySem.F.slot_list_append PySem.F.type_list_append oZ (pv 2) (ae (a7 fg (pv 3) ay) ag))) (aB (bZ (i:=3) A7.nd rfl (aR rfl) (a7 jL (pv 3) ay))))))) (aB (a8 (pv 2))))),?_⟩;have fu:=lu;refine⟨qc,λL nL=>?_⟩;have s0:af H (upd H L (.lst [])):=aH (af.refl _) nL;have hL:upd H L (.lst []) L=some (.lst []):=au;generalize upd H L (.lst [])=H0 at s0 hL ⊢;refine⟨_,rfl,_,_,rfl,rfl,⟨qc,qc⟩,?_⟩;refine⟨_,rfl,_,rfl,li,li,?_⟩;rw[show ((n:Int)).toNat=n by lia];refine AW (n:=n) (λi σ H'=>∃(ds:List Int) (r:Int) (w4:Option V),σ=[some (.int c),some (.int (n:Nat)),some (.ref L),some (.int r),w4]/\af H H'/\H' L=some (.lst (ds.map V.int))/\ds.length=i/\∀d∈ds,(0:Int)<=d) ⟨[],_,none,rfl,s0,hL,rfl,λd z=>by cases z⟩ ?_ ?_
  ·rintro i σ H1 hi ⟨ds,r,w4,rfl,s1,jG,hl,hd⟩
   have fin:∀(x:Int) (r':Int) (w5:Option V),0<=x->∃(Px:List Int) (r'':Int) (w4':Option V),([some (.int c),some (.int (n:Nat)),some (.ref L),some (.int r'),w5]:L2.St)=[some (.int c),some (.int (n:Nat)),some (.ref L),some (.int r''),w4']/\af H (upd H1 L (.lst (ds.map V.int++[.int x])))/\upd H1 L (.lst (ds.map V.int++[.int x])) L=some (.lst (Px.map V.int))/\Px.length=i+1/\∀d∈Px,(0:Int)<=d:=λx r' w5 hx=>by
    refine⟨ds++[x],r',w5,rfl,Dw (s1) nL,by rw[au,km];rfl,by rw[cX,hl];rfl,λd yv=>?_⟩;rcases jo.mp yv with z | z
    ·exact hd d z
    ·rw[gz.mp z];exact hx
   refine⟨_,rfl,_,_,rfl,rfl,(by show (0:Int)<2;decide),rfl,_,rfl,cx (λ_=>?_) λ_=>?_⟩
   ·exact⟨_,rfl,.inl ⟨rfl,_,av.of jG⟩,_,rfl,_,rfl,_,_,rfl,L,_,_,rfl,rfl,jG,by rw[aX,fu];lia,fin _ _ _ (agE _ _).1⟩
   ·refine⟨_,rfl,.inl ⟨rfl,_,av.of jG⟩,_,rfl,_,_,rfl,rfl,(by show (0:Int)<6912;decide),L,_,_,rfl,rfl,jG,by rw[aX,fu];omega,?_⟩;exact⟨_,rfl,_,_,rfl,rfl,⟨qc,qc⟩,fin _ _ _ (sZ _ qc)⟩
  ·rintro σ H1 ⟨ds,r,w4,rfl,s1,jG,hl,hd⟩;exact⟨_,rfl,q H1 L ds s1 nL jG hl hd⟩
def UQ:Sp:=λvs H Q _=>∃(c k:Int) (n:Nat),vs=[.int c,.int k,.int (n:Nat)]/\0<n/\∀i:Nat,i<n->Q (.int (i:Nat)) H
theorem akg:bg zLd zLd (aQ L7):=bu
theorem V8(d:Int){n:Nat}(h:0<n):∃r:Nat,d%(n:Int)=(r:Int)/\r<n:=by
 have h1:=sZ d (show (n:Int)≠0 by lia);have h2:=uJ d (show (0:Int)<(n:Int) by lia);exact⟨(d%(n:Int)).toNat,li,li⟩
theorem aiv{f fM:Addr}{fd wF:aV}(F:aW K "_law_pick" "_law_pick" L7 f fd)
  (GM:aw P w K mg base az 1 fM wF zLb Ey) (kM:W.keepIn K (.ref fM)=true) (bM:Binds K wF zLb []) (mM:mg "_law_mixed" = some (.ref fM)):aw P w K mg base az 2 f fd zLd UQ:=by
 refine F.ok akg (λvs H Q E h=>?_) λaI A _ s H vs Q E hr h=>?_
 ·obtain⟨c,k,n,rfl,_⟩:=h;rfl
 ·obtain⟨c,k,n,rfl,hn,q⟩:=h;refine⟨_,ax (cF (cw eC (a7 fg (pv 0) ay) ay (bU _)) (aB (a8 (a7 fg (a7 jL (dF GM hr rfl mM kM bM .nil aS (ae (a7 jL (pv 0) ay) (ae (pv 1) ag))) ay) (pv 2)))) cU) (aB (a8 (a7 fg (a7 jL (pv 0) ay) (pv 2)))),?_⟩;refine⟨_,rfl,_,_,rfl,rfl,(by show (0:Int)<2;decide),rfl,_,rfl,cx (λ_=>?_) λ_=>?_⟩
  ·obtain⟨r,er,wx⟩:=V8 (Bs (c/2) k/8) hn;refine⟨_,rfl,_,_,rfl,rfl,⟨qc,qc⟩,_,rfl,_,_,rfl,_,_,rfl,rfl,⟨qc,qc⟩,_,rfl,_,_,rfl,rfl,(by show (0:Int)<(n:Int);lia),?_⟩;have:=q r wx;rw[<-er]at this;exact this
  ·obtain⟨r,er,wx⟩:=V8 (c/2) hn;refine⟨_,rfl,_,_,rfl,rfl,⟨qc,qc⟩,_,rfl,_,_,rfl,rfl,(by show (0:Int)<(n:Int);lia),?_⟩;have:=q r wx;rw[<-er]at this;exact this
def VA:Sp:=λvs H Q _=>∃d nm,∃len:Nat,vs=[.int d,.int (len:Nat),.int nm]/\0<=d/\len<=120/\0<nm/\nm<=12/\∀v H' s,af H H'->jO H' v s->di len s->Q v H'
theorem Ez:bg ["_law_draw","_law_length","_law_names","_law_kind","_law_box","_law_name"] zLf (aQ MN):=bu
theorem akA{f:Addr}{fd:aV}(F:aW K "_law_one" "_law_one" MN f fd):aw P w K mg base az 1 f fd zLf VA:=by
 refine F.ok Ez (λvs H Q E h=>?_) λaI A _ s H vs Q E hr h=>?_
 ·obtain⟨d,nm,len,rfl,_⟩:=h;rfl
 ·obtain⟨d,nm,len,rfl,hd,hlen,Gy,Ae,q⟩:=h;refine⟨_,ax (bZ (i:=3) Ez.nd rfl (aR rfl) (a7 fg (pv 0) ay)) (ax (bZ (i:=4) Ez.nd rfl (aR rfl) (a7 fg (a7 jL (pv 0) ay) ay)) (ax (bZ (i:=5) Ez.nd rfl (aR rfl) (a7 fg (a7 jL (pv 0) ay) (pv 2))) (ax (cF (cw eC (pv 3) ay (bU _)) (aB (a8 (eR (ae bw (ae (pv 4) (ae (a7 fg (a7 jL (pv 0) ay) ay) ag)))))) cU) (ax (cF (cw eC (pv 3) ay (bU _)) (aB (a8 (eR (ae bw (ae (pv 4) (ae (a7 fg (a7 jL (pv 0) ay) ay) ag)))))) cU) (ax (cF (cw Bx (pv 3) ay (bU _)) (aB (a8 (eR (ae bw (ae (pv 5) (ae (pv 4) ag)))))) cU) (ax (cF (cw Bx (pv 3) ay (bU _)) (aB (a8 (eR (ae bw (ae (pv 4) (ae (pv 5) ag)))))) cU) (ax (cF (cw eC (pv 3) ay (bU _)) (aB (a8 (aT cI (dW (ae (eR (ae bw ag)) (ae (eR (ae bw (ae (pv 4) (ae (pv 5) ag)))) ag))) (a7 fg (a7 jL (pv 0) ay) ay)))) cU) (aB (a8 (eR (ae bw (ae (pv 4) (ae (a7 fg (a7 jL (pv 0) ay) (a7 kz (pv 1) ay)) ag))))))))))))),?_⟩;have h12:(0:Int)<12:=qc;obtain⟨bx,An,ZX⟩:=xr (d/12) (Mt hd qc) 4 qc;obtain⟨na,Pu,hna⟩:=xr (d/48) (Mt hd qc) nm Gy;have yj:0<=d/576:=Mt hd qc;refine⟨_,rfl,_,_,rfl,rfl,(by show (0:Int)<12;decide),?_⟩;refine⟨_,rfl,_,_,rfl,rfl,⟨qc,qc⟩,_,_,rfl,rfl,(by show (0:Int)<4;decide),?_⟩;refine⟨_,rfl,_,_,rfl,rfl,⟨qc,qc⟩,_,rfl,_,_,rfl,rfl,Gy,?_⟩;refine⟨_,rfl,rfl,_,rfl,cx (λh0=>?_) λh0=>?_⟩
  ·obtain⟨r,er,pS⟩:=xr (d/576) yj 3 qc;refine⟨_,rfl,_,rfl,_,_,rfl,rfl,⟨qc,qc⟩,_,_,rfl,rfl,(by show (0:Int)<3;decide),by show 3<=aP;decide,λtp ht=>?_⟩;refine q _ _ ("put",[bx,r]) (aH (af.refl _) ht) ⟨tp,rfl,?_⟩ (.put bx r li (afR r pS));rw[au];show some (HO.tup [.str "put",V.int (d/12%4),V.int (d/576%3)])=_;rw[An,er];rfl
  refine⟨_,rfl,rfl,_,rfl,cx (λh1=>?_) λh1=>?_⟩
  ·obtain⟨r,er,nN⟩:=xr (d/576) yj 4 qc;refine⟨_,rfl,_,rfl,_,_,rfl,rfl,⟨qc,qc⟩,_,_,rfl,rfl,(by show (0:Int)<4;decide),by show 3<=aP;decide,λtp ht=>?_⟩;refine q _ _ ("add",[bx,r]) (aH (af.refl _) ht) ⟨tp,rfl,?_⟩ (.add bx r om li);rw[au];show some (HO.tup [.str "add",V.int (d/12%4),V.int (d/576%4)])=_;rw[An,er];rfl
  refine⟨_,rfl,_,_,rfl,rfl,_,rfl,cx (λh2=>?_) λh2=>?_⟩
  ·refine⟨_,rfl,_,rfl,by show 3<=aP;decide,λtp ht=>?_⟩;refine q _ _ ("set",[na,bx]) (aH (af.refl _) ht) ⟨tp,rfl,?_⟩ (.set na bx li li);rw[au];show some (HO.tup [.str "set",V.int (d/48%nm),V.int (d/12%4)])=_;rw[An,Pu];rfl
  refine⟨_,rfl,_,_,rfl,rfl,_,rfl,cx (λh3=>?_) λh3=>?_⟩
  ·refine⟨_,rfl,_,rfl,by show 3<=aP;decide,λtp ht=>?_⟩;refine q _ _ ("look",[bx,na]) (aH (af.refl _) ht) ⟨tp,rfl,?_⟩ (.look bx na om om);rw[au];show some (HO.tup [.str "look",V.int (d/12%4),V.int (d/48%nm)])=_;rw[An,Pu];rfl
  refine⟨_,rfl,rfl,_,rfl,cx (λh4=>?_) λh4=>?_⟩
  ·refine⟨by show 1<=aP;decide,λt1 n1=>⟨_,rfl,_,rfl,by show 3<=aP;decide,λt2 n2=>⟨by show 2<=aP;decide,λl nl=>?_⟩⟩⟩;have g1:upd H t1 (.tup [.str "clear"]) t1=some (.tup [.str "clear"]):=au;have s1:af H (upd H t1 (.tup [.str "clear"])):=aH (af.refl _) n1;generalize upd H t1 (.tup [.str "clear"])=H1 at g1 s1 n2 nl ⊢;have s2:=aH (o:=.tup [.str "swap",V.int (d/12%4),V.int (d/48%nm)]) (af.refl H1) n2;have g2:upd H1 t2 (.tup [.str "swap",V.int (d/12%4),V.int (d/48%nm)]) t2=some (.tup [.str "swap",V.int (d/12%4),V.int (d/48%nm)]):=au;have s3:=aH (o:=.lst [.ref t1,.ref t2]) s2 nl;obtain⟨ix,eix,hix⟩:=xr (d/576) yj 2 qc;have ao4:ix=0\/ix=1:=li;rcases ao4 with e | e
   ·subst e;refine⟨_,rfl,_,_,rfl,rfl,⟨qc,qc⟩,_,_,rfl,rfl,(by show (0:Int)<2;decide),l,_,(0:Nat),.ref t1,rfl,by show V.int (d/576%2)=_;rw[eix],av.of au,dG (j:=0) rfl,?_⟩;exact q _ _ ("clear",[]) (s1.trans s3) ⟨t1,rfl,s3 _ _ g1⟩ .clear
   ·subst e;refine⟨_,rfl,_,_,rfl,rfl,⟨qc,qc⟩,_,_,rfl,rfl,(by show (0:Int)<2;decide),l,_,(1:Nat),.ref t2,rfl,by show V.int (d/576%2)=_;rw[eix],av.of au,dG (j:=1) rfl,?_⟩;refine q _ _ ("swap",[bx,na]) (s1.trans s3) ⟨t2,rfl,?_⟩ (.swap bx na om om);have nl':upd H1 t2 (.tup [.str "swap",V.int (d/12%4),V.int (d/48%nm)]) l=none:=nl;show upd (upd H1 t2 (.tup [.str "swap",V.int (d/12%4),V.int (d/48%nm)])) l (.lst [.ref t1,.ref t2]) t2=some (HO.tup [.str "swap",V.int ((bx:Nat):Int),V.int ((na:Nat):Int)]);rw[aj (ba g2 nl'),g2,An,Pu]
  ·obtain⟨r,er,nN⟩:=xr (d/576) yj ((len:Int)+1) li;refine⟨_,rfl,_,rfl,_,_,rfl,rfl,⟨qc,qc⟩,_,rfl,_,_,rfl,rfl,_,_,rfl,rfl,(by show (0:Int)<(len:Int)+1;lia),by show 3<=aP;decide,λtp ht=>?_⟩;refine q _ _ ("skip",[bx,r]) (aH (af.refl _) ht) ⟨tp,rfl,?_⟩ (.skip bx r om li li);rw[au];show some (HO.tup [.str "skip",V.int (d/12%4),V.int (d/576%((len:Int)+1))])=_;rw[An,er];rfl
structure SA where
 (cl bd ac ov:Addr) (ks:List (Addr×Addr×Addr)) (os:List Addr)
def amV(H:Hp)(v:V)(e:Ent):Prop:=∃p,v=.ref p/\H p=some (.tup [.int e.n,.int e.num,.int e.d])
structure aol(H:Hp)(x:Addr×Addr×Addr)(k:Ck):Prop where
 st:H x.1=some (.lst [.int (k.pl:Nat),.int (k.ct:Nat),.ref x.2.1,.ref x.2.2])
 rg:H x.2.1=some (.lst (k.rg.map V.int))
 es:∃vs,H x.2.2=some (.lst vs)/\Paired (amV H) vs k.es
structure ap8(H:Hp)(s:Addr)(B:SA)(S:Mc):Prop where
 st:H s=some (.lst [.ref B.cl,.ref B.bd,.ref B.ac,.ref B.ov])
 cl:H B.cl=some (.lst (B.ks.map λx=>V.ref x.1))
 ks:Paired (aol H) B.ks S.ck
 bd:H B.bd=some (.lst (S.bd.map V.int))
 ac:∃vs,H B.ac=some (.lst vs)/\Paired (vC H) vs S.ac
 ov:H B.ov=some (.lst (B.os.map V.ref))
 os:Paired (λa (o:List Int)=>H a=some (.lst (o.map V.int))) B.os S.ov
structure aqs(lab:Addr->Nat)(s:Addr)(B:SA):Prop where
 s:lab s=1
 cl:lab B.cl=3
 bd:lab B.bd=5
 ac:lab B.ac=7
 ov:lab B.ov=9
 k1:∀i x,B.ks[i]?=some x->lab x.1=21+8*i
 k2:∀i x,B.ks[i]?=some x->lab x.2.1=23+8*i
 k3:∀i x,B.ks[i]?=some x->lab x.2.2=25+8*i
 os:∀i a,B.os[i]?=some a->lab a=27+8*i
inductive uk (s:Addr) (B:SA):Addr->Prop
 | s:uk s B s
 | cl:uk s B B.cl
 | bd:uk s B B.bd
 | ac:uk s B B.ac
 | ov:uk s B B.ov
 | k1 {x:Addr×Addr×Addr}:x∈B.ks->uk s B x.1
 | k2 {x:Addr×Addr×Addr}:x∈B.ks->uk s B x.2.1
 | k3 {x:Addr×Addr×Addr}:x∈B.ks->uk s B x.2.2
 | os {a:Addr}:a∈B.os->uk s B a
section
variable{H H':Hp}{s:Addr}{B:SA}{S:Mc}{lab:Addr->Nat}
end
end TL
namespace L2
open PySem PySem.Spec PyProof.Rows PySem.SeqAt
section
variable{X:Cx}{e:Expr}{es:List Expr}
theorem PE.imp{t t':TE}(h:PE X e t)(hi:∀σ H Q,t' σ H Q->t σ H Q):PE X e t':=λp_ s σ H Q I q=>h p_ s σ H Q I (hi σ H Q q)
theorem PA.imp{t t':TA}(h:PA X es t)(hi:∀σ H Q,t' σ H Q->t σ H Q):PA X es t':=λpos p_ s σ H Q I q=>h pos p_ s σ H Q I (hi σ H Q q)
end
end L2
namespace TL
open PySem PySem.Spec PyProof.Rows PySem.SeqAt L2 L3 L4
variable{P:Program}{w:World}{K:PySem.W.Frag}{mg:Str->Option Value}{base:Heap}
def notStar:Expr->Bool
 | .Starred _ _=>false
 | _=>true
theorem akc{e:Expr}{es:List Expr}{env:Env}(h:notStar e=true):cg (e::es) env=(false,eval e env)::cg es env:=by
 rw[cg];intro e' p z;subst z;cases h
def tK(R:Hp->V->Prop)(pre:L2.St->Prop):TE:=λσ H Q=>pre σ/\∀v H',af H H'->R H' v->Q v H'
def Fw(R:Hp->V->Prop)(pre:L2.St->Prop)(n:Nat):TA:=λσ H Q=>pre σ/\∀(vs:List V) H',vs.length=n->af H H'->(∀v∈vs,R H' v)->Q vs H'
def XO(R:Hp->V->Prop)(pre:L2.St->Prop)(n:Nat):TE:=λσ H Q=>pre σ/\∀l (vs:List V) H',vs.length=n->af H H'->H l=none->H' l=some (.lst vs)->(∀v∈vs,R H' v)->Q (.ref l) H'
section
variable{X:Cx}{R:Hp->V->Prop}{pre:L2.St->Prop}{e:Expr}{es:List Expr}{n m:Nat}{p:Pos}
theorem ak2:PA X [] (Fw R pre 0):=ag.imp λ_ H _ h=>h.2 [] H rfl (af.refl H) (λ_ z=>by cases z)
theorem Ui(hR:∀{H H':Hp} {v:V},R H v->af H H'->R H' v)(he:PE X e (tK R pre))(hn:notStar e=true)(hr:PA X es (Fw R pre n)):PA X (e::es) (Fw R pre (n+1)):=(ae he hr (akc hn)).imp λσ H Q h=>
 ⟨h.1,λv H1 s1 hv=>⟨h.1,λvs H2 hl s2 oG=>h.2 (v::vs) H2 (by rw[fG,hl]) (s1.trans s2) λx hx=>by rcases bq.mp hx with e | e;(rw[e];exact hR hv s2);exact oG x e⟩⟩
theorem kl(hR:∀{H H':Hp} {v:V},R H v->af H H'->R H' v)(h:PA X es (Fw R pre n))(hn:n<=1000:=by decide):PE X (.List es p) (XO R pre n):=(dW h).imp λσ H Q q=>
 ⟨q.1,λvs H1 hl s1 oG=>⟨cO (c9 w7),λr hr=>q.2 r vs _ hl (aH s1 hr) (s1.free hr) au λv hv=>hR (oG v hv) (aH (af.refl _) hr)⟩⟩
end
theorem aoh(us:List V)(i:Nat):jT us none (some (i:Int))=us.take i:=by
 unfold jT;rw[HT.Km,HT.Jz,HV,QP]
 by_cases h:i<=us.length
 ·rw[AE h]
 ·rw[Qj li,iE (aF _),iE om]
def qt(sz:Nat)(H:Hp)(v:V):Prop:=∃t,jO H v t/\di sz t
theorem qt.same{sz:Nat}{H H':Hp}{v:V}(h:qt sz H v)(s:af H H'):qt sz H' v:=by
 refine ah h λt h1 h2=>?_;exact ar t (h1.keep λb xs e=>s _ _ e) h2
theorem QU{H:Hp}{sz:Nat}:∀{vs:List V},(∀v∈vs,qt sz H v)->∃ts,Paired (jO H) vs ts/\∀t∈ts,di sz t
 | [],_=>⟨[],.nil,λ_ z=>by cases z⟩
 | v::vs,h=>by
  refine ah (h v (by simp)) λt h1 h2=>?_;refine ah (QU λv hv=>h v (dn _ hv)) λts h3 h4=>?_;refine ar (t::ts) (.cons h1 h3) λx hx=>?_;rcases bq.mp hx with e | e
  ·rw[e];exact h2
  ·exact h4 x e
def WM:Stmt->List Stmt
 | .For _ _ b _ _=>b
 | _=>[]
def aof:Stmt->Expr
 | .For g _ _ _ _=>g
 | _=>.Constant .none 0 ⟨0,0,0,0⟩
def aoe:Stmt->Expr
 | .For _ i _ _ _=>i
 | _=>.Constant .none 0 ⟨0,0,0,0⟩
def XJ:Stmt->Expr
 | .Assign _ (.Subscript v _ _) _=>v
 | .Assign _ (.BinOp _ _ v _) _=>v
 | .Assign _ v _=>v
 | _=>.Constant .none 0 ⟨0,0,0,0⟩
def XU:Stmt->Expr
 | .Assign _ (.Subscript _ i _) _=>i
 | _=>.Constant .none 0 ⟨0,0,0,0⟩
abbrev xK(n:Nat):Stmt:=(hX Bm).getD n (.Pass ⟨0,0,0,0⟩)
abbrev BX(n:Nat):Stmt:=(WM (xK 3)).getD n (.Pass ⟨0,0,0,0⟩)
@[irreducible] def BN:Expr:=XJ (BX 1)
theorem als:∃p1 p2 p3 p4,hX Bm=[xK 0,xK 1,xK 2,.For (aof (xK 3)) (aoe (xK 3)) [BX 0,.Assign [.Name "_law_steps" p1] (.Subscript BN (XU (BX 1)) p2) p3,BX 2,BX 3] [] p4,xK 4]:=by
 unfold BN;exact cY _ _ _ _ rfl
def E4:L2.St->Prop:=λσ=>∃i:Nat,i<4/\σ[4]?=some (some (.int (0+(i:Int))))
theorem afV(i:Nat)(h:i<4):7*i+2<10^60:=by
 have:=JZ;lia
theorem akw(i:Nat)(h:i<4):1+i<10^60:=by
 have:=JZ;lia
theorem aks{X:Cx}(hN:X.N[4]?=some ("_law_clerk" : Str))(hV:FE X.env.scope ("_law_clerk" : Str)):PE X BN (XO (qt 0) E4 2):=by
 unfold BN;refine @kl X (qt 0) E4 _ 2 _ qt.same (@Ui X (qt 0) E4 _ _ 1 qt.same (λp_ s σ H Q I q=>eR (ae bw (ae ay (ae (a7 kz ay (Ll hN hV)) ag))) p_ s σ H Q I ?_) rfl (@Ui X (qt 0) E4 _ _ 0 qt.same (λp_ s σ H Q I q=>eR (ae bw (ae ay (ae (a7 kz (a7 Bp ay (Ll hN hV)) ay) ag))) p_ s σ H Q I ?_) rfl ak2)) qc
 ·refine oA q λaa k=>?_;refine ah aa λi hi hσ=>?_;refine ar _ hσ ⟨_,⟨_,rfl,rfl,by show 3<=aP;decide,λtp ht=>?_⟩⟩;refine k _ _ (aH (af.refl _) ht) (ar ("put",[0,1+i]) ⟨tp,rfl,?_⟩ (.put 0 _ qc (akw i hi)));rw[au];show some (HO.tup [.str "put",.int 0,V.int (1+(0+(i:Int)))])=some (HO.tup [.str "put",.int 0,V.int ((1+i:Nat):Int)]);rw[show (1+(0+(i:Int)))=((1+i:Nat):Int) by lia]
 ·refine oA q λaa k=>?_;refine ah aa λi hi hσ=>?_;refine ar _ hσ ⟨_,⟨_,rfl,rfl,.inl ⟨qc,qc⟩,_,_,rfl,rfl,by show 3<=aP;decide,λtp ht=>?_⟩⟩;refine k _ _ (aH (af.refl _) ht) (ar ("put",[1,7*i+2]) ⟨tp,rfl,?_⟩ (.put 1 _ qc (afV i hi)));rw[au];show some (HO.tup [.str "put",.int 1,V.int (7*(0+(i:Int))+2)])=some (HO.tup [.str "put",.int 1,V.int ((7*i+2:Nat):Int)]);rw[show (7*(0+(i:Int))+2)=((7*i+2:Nat):Int) by lia]
theorem DK{k:Nat}{x y:V}{σ:L2.St}{H:Hp}{Q:L2.St->Hp->Prop}(e:x=y)(h:ij k y σ H Q):ij k x σ H Q:=by rw[e];exact h
theorem Ea{ds:List Int}{i:Nat}(h:i<ds.length):∃d,d∈ds/\ir (ds.map V.int) (i:Int)=some (.int d):=⟨ds[i],AB h,dG (by rw[fw,bb h];rfl)⟩
def TC:Sp:=λvs H Q _=>∃c,vs=[.int c]/\∀H' v ps,af H H'->qm H' v ps->qu ps->ps.length<=3->(∀p∈ps,p.length<=8)->Q v H'
theorem vd:bg ["_law_cell","_law_parts","_law_draws","_law_names","_law_clerk","_law_length","_law_steps","_law_k"] ["_law_cell"] (aQ Bm):=bu
theorem ags{f fT fO:Addr}{fd nO ue:aV}(F:aW K "_law_program" "_law_program" Bm f fd)(gd:mg "len" = none)(iw:mg "range" = none)(pR:mg "tuple" = none)
  (GT:aw P w K mg base az 2 fT nO zLe Sr) (kT:W.keepIn K (.ref fT)=true) (bT:Binds K nO zLe []) (mT:mg "_law_stream" = some (.ref fT))
  (GO:aw P w K mg base az 1 fO ue zLf VA) (kO:W.keepIn K (.ref fO)=true) (bO:Binds K ue zLf []) (mO:mg "_law_one" = some (.ref fO)) :
  aw P w K mg base az 3 f fd ["_law_cell"] TC:=by
 refine F.ok vd (λvs H Q E h=>?_) λaI A _ s H vs Q E hr h=>?_
 ·refine ah h λc aa _=>?_;clear h;subst aa;rfl
 ·refine ah h λc aa q=>?_;clear h;subst aa;have jE:=hr.mono (show 1<=2 by decide);refine Mh als λp1 p2 p3 p4 eB=>?_;rw[eB]
  refine⟨_,ax (bZ (i:=1) vd.nd rfl (aR rfl) (dW ag)) (ax (bZ (i:=2) vd.nd rfl (aR rfl) (dF GT hr rfl mT kT bT .nil aS (ae (pv 0) (ae ay ag)))) (ax (bZ (i:=3) vd.nd rfl (aR rfl) (a7 kz ay (a7 fg (aT cI (pv 2) ay) ay))) (ax (rQ uP rfl (wX rfl iw (ae (a7 kz ay (a7 fg (aT cI (pv 2) ay) ay)) ag)) (de (i:=4) vd.nd rfl (aR rfl)) (ax (bZ (i:=5) vd.nd rfl (aR rfl) (a7 fg (aT cI (pv 2) (a7 kz ay (pv 4))) ay)) (ax (bZ (i:=6) vd.nd rfl (aR rfl) (uZ ahV (aks rfl (aR rfl)) vg (vf (pv 5))) (by first | rfl | (unfold BN;rfl)))
    (ax (rQ uP rfl (RI rfl iw (ae (cA iG rfl gd PySem.boot_len (ae (pv 6) ag)) (ae (pv 5) ag))) (de (i:=7) vd.nd rfl (aR rfl)) (aB (dQ (mh PySem.F.plainAttrs_list PySem.F.slot_list_append PySem.F.type_list_append oZ (pv 6) (ae (dF GO jE rfl mO kO bO .nil aS (ae (aT cI (pv 2) (a7 kz (a7 kz ay (a7 Bp ay (pv 4))) (pv 7))) (ae (pv 5) (ae (pv 3) ag)))) ag))))) (aB (dQ (mh PySem.F.plainAttrs_list PySem.F.slot_list_append PySem.F.type_list_append oZ (pv 1) (ae (jg AG rfl pR uU (ae (pv 6) ag)) ag))))))))
   (aB (a8 (jg AG rfl pR uU (ae (pv 1) ag))))))),?_⟩
  have fu:=lu;refine⟨qc,λL nL=>?_⟩;have s0:af H (upd H L (.lst [])):=aH (af.refl _) nL;have hL:upd H L (.lst []) L=some (.lst []):=au;generalize upd H L (.lst [])=H0 at s0 hL ⊢;refine vr rfl (dv c 29 rfl qc λH1 ld ds s1 nd hd hdl ZT=>?_);have jG:=s1 _ _ hL;have nLd:L≠ld:=λz=>by rw[<-z,hL]at nd;cases nd
  refine ah (Ea (ds:=ds) (i:=0) li) λd0 m0 e0=>?_;refine ah (Ea (ds:=ds) (i:=1) li) λd1 m1 e1=>?_;have b0:=sZ d0 (show (3:Int)≠0 by decide);have b1:=uJ d0 (show (0:Int)<3 by decide);have c0:=sZ d1 (show (2:Int)≠0 by decide);have c1:=uJ d1 (show (0:Int)<2 by decide);refine ar _ rfl (rL (v:=.int d0) (av.of hd) (e0) ⟨_,⟨_,rfl,rfl,(by show (0:Int)<3;decide),_,_,rfl,rfl,?_⟩⟩);obtain⟨nm,enm⟩:∃nm,nm=1+d0%3:=⟨_,rfl⟩;refine DK (y:=.int nm) (by show V.int (1+d0%3)=_;rw[enm]) ?_;have Gy:0<nm:=li;have Ae:nm<=12:=li;refine ar _ rfl (rL (v:=.int d1) (av.of hd) (e1) ⟨_,⟨_,rfl,rfl,(by show (0:Int)<2;decide),_,_,rfl,rfl,_,rfl,li,li,?_⟩⟩);obtain⟨n,hn,hn4,hn5⟩:∃n:Nat,(2+d1%2).toNat=n/\1<=n/\n<=3:=⟨_,rfl,li,li⟩;rw[hn];refine AW (n:=n) (λi σ H'=>∃ys ps w4 w5 w6 w7,σ=[some (.int c),some (.ref L),some (.ref ld),some (.int nm),w4,w5,w6,w7]/\af H H'/\H' ld=some (.lst (ds.map V.int))/\H' L=some (.lst ys)/\Paired (IsPart H') ys ps/\ps.length=i/\∀p∈ps,p.length<=8/\∀t∈p,di p.length t) ⟨[],[],none,none,none,none,rfl,s0.trans s1,hd,jG,.nil,rfl,λp z=>by cases z⟩ ?_ ?_
  ·rintro i σ H2 hi ⟨ys,ps,w4,w5,w6,w7,rfl,s2,hd2,kZ,oF,dO,jX⟩;have Oy:=Paired.length oF;refine ah (Ea (ds:=ds) (i:=2+i) li) λd2 m2 e2=>?_;refine ah (xr d2 (ZT d2 m2) 9 qc) λlen el OR=>?_;refine vr rfl (vr rfl ⟨_,⟨_,rfl,rfl,ld,_,((2+i:Nat):Int),.int d2,rfl,by show V.int (2+(0+(i:Int)))=_;rw[show (2+(0+(i:Int)))=((2+i:Nat):Int) by lia],av.of hd2,e2,_,_,rfl,rfl,(by show (0:Int)<9;decide),?_⟩⟩);refine DK (y:=.int (len:Nat)) (by show V.int (d2%9)=_;rw[el]) ?_;refine⟨⟨i,xb,rfl⟩,λl vs H3 Gj s3 nl hl oG=>⟨_,rfl,(len:Int),rfl,l,vs,rfl,av.of hl,λp np=>?_⟩⟩;rw[aoh];have x6:=aH (o:=.lst (vs.take len)) s3 np;have Yi:=aH (o:=.lst (vs.take len)) (af.refl H3) np;have np2:H2 p=none:=s3.free np;have hp:upd H3 p (.lst (vs.take len)) p=some (.lst (vs.take len)):=au;generalize upd H3 p (.lst (vs.take len))=H4 at x6 Yi hp ⊢;refine ah (QU (vs:=vs.take len) (H:=H4) (sz:=0) λv hv=>(oG v (C5 hv)).same Yi) λts0 Nm hg0=>?_;have GJ:(vs.take len).length<=len:=by rw[ff];exact xl
   have i9:=Paired.length Nm;refine vr rfl ⟨p,⟨_,rfl,.inl (av.of hp),_,rfl,_,_,rfl,⟨li,li,li,li⟩,?_⟩⟩;generalize vs.take len=us at hp Nm GJ i9 ⊢;rw[show ((len:Int)-(us.length:Int)).toNat=len-us.length by lia];refine AW (n:=len-us.length) (λj σ H'=>∃zs ts w7,σ=[some (.int c),some (.ref L),some (.ref ld),some (.int nm),some (.int (0+(i:Int))),some (.int (len:Nat)),some (.ref p),w7]/\af H2 H'/\H' p=some (.lst zs)/\Paired (jO H') zs ts/\ts.length=us.length+j/\∀t∈ts,di len t) ⟨us,ts0,_,rfl,x6,hp,Nm,li,λt ht=>(hg0 t ht).mono (bX _)⟩ ?_ ?_
   ·rintro j σ H5 hj ⟨zs,ts,w7,rfl,s5,hz,Cj,OI,hg⟩;have Zi:=Paired.length Cj;refine ah (Ea (ds:=ds) (i:=5+8*i+(us.length+j)) li) λdk mk ek=>?_;have eI:(5+8*(0+(i:Int))+((us.length:Int)+(j:Int)))=((5+8*i+(us.length+j):Nat):Int):=li;refine vr rfl ⟨.inl ⟨rfl,_,av.of hz⟩,⟨_,rfl,_,rfl,_,_,rfl,rfl,.inl ⟨qc,qc⟩,_,_,rfl,rfl,_,rfl,_,_,rfl,rfl,ld,_,_,.int dk,rfl,rfl,av.of (s5 _ _ hd2),(by rw[eI];exact ek),_,rfl,_,rfl,dk,nm,len,rfl,ZT dk mk,li,Gy,Ae,λv H6 t s6 ht6 hg6=>⟨p,zs,v,rfl,rfl,s6 _ _ hz,by rw[fu];lia,?_⟩⟩⟩;have Ox:=s6 _ _ hz;have kt:=tF (o:=.lst (zs++[v])) Ox;refine sv (zs++[v]) (ts++[t]) (g9 _ rfl (Dw (s5.trans s6) np2) au (nR (Paired.b8 Cj λ_ _ q=>q.keep λb xs e=>kt _ _ (s6 _ _ e)) (ht6.keep kt)) (by rw[cX,OI];rfl) λx hx=>?_);rcases jo.mp hx with hx | hx
    ·exact hg x hx
    ·rw[gz.mp hx];exact hg6
   ·rintro σ H5 ⟨zs,ts,w7,rfl,s5,hz,Cj,OI,hg⟩;have Zi:=Paired.length Cj;have G9:=s5 _ _ kZ;have hd5:=s5 _ _ hd2;refine c8 _ rfl (.inl ⟨rfl,_,av.of G9⟩) (vr rfl (eW p zs rfl (.inl ⟨av.of hz,λtp ht=>⟨L,ys,.ref tp,rfl,rfl,?_,by rw[fu];lia,?_⟩⟩)))
    ·rw[aj (ba G9 ht)];exact G9
    ·have s6:=aH (o:=.tup zs) (af.refl H5) ht;have aoK:ts.length=len:=li;have yy:=s6 _ _ G9;have kt:=tF (o:=.lst (ys++[.ref tp])) yy;have Yh:=s5.trans s6;refine⟨(ys++[.ref tp]),(ps++[ts]),_,_,_,(⟨_,rfl,(Dw (s2.trans Yh) nL),?_,au,(nR (Paired.b8 oF λ_ _ q=>q.keep λb xs e=>kt _ _ (Yh _ _ e)) ⟨tp,zs,rfl,kt _ _ au,Paired.b8 Cj λ_ _ q=>q.keep λb xs e=>kt _ _ (s6 _ _ e)⟩),(by rw[cX,dO];rfl),(λx hx=>?_)⟩)⟩
     ·rw[aj nLd.symm];exact s6 _ _ hd5
     ·rcases jo.mp hx with hx | hx
      ·exact jX x hx
      ·rw[gz.mp hx];refine⟨li,λt ht=>?_⟩;rw[aoK];exact hg t ht
  ·rintro σ H2 ⟨ys,ps,w4,w5,w6,w7,rfl,s2,hd2,kZ,oF,dO,jX⟩;refine vr rfl (eW L ys rfl (.inl ⟨av.of kZ,λtp ht=>?_⟩));have s3:=aH (o:=.tup ys) (af.refl H2) ht;exact q _ _ ps (s2.trans s3) ⟨tp,ys,rfl,au,Paired.b8 oF λ_ _ q=>q.keep λb xs e=>s3 _ _ e⟩ ⟨li,w8,λp hp=>⟨by have:=(jX p hp).1;lia,(jX p hp).2⟩⟩ w8 λp hp=>(jX p hp).1
def Bz:List V->Bool
 | .str _::r=>r.all qG
 | _=>false
theorem SY:∀{r:List V},r.all qG=true->∃is:List Int,r=is.map V.int
 | [],_=>⟨[],rfl⟩
 | x::r,h=>by
  rw[wM,fJ]at h;refine oE (SY h.2) λis aa=>?_;subst aa;cases x with
  | int i=>exact⟨i::is,rfl⟩
  | _=>cases h.1
theorem UD:∀is:List Int,(is.map V.int).all qG=true
 | []=>rfl
 | i::is=>by rw[iF,wM,UD is];rfl
theorem ai0{xs:List V}(h:Bz xs=true):∃mv,xs=lS mv:=by
 cases xs with
 | nil=>cases h
 | cons x r=>
  cases x with
  | str x=>
   refine oE (SY (show r.all qG=true from h)) λis aa=>?_;subst aa;exact⟨(x,is),rfl⟩
  | _=>cases h
theorem aiJ(mv:Mv):Bz (lS mv)=true:=UD mv.2
theorem xg{a b:Mv}(h:lS a=lS b):a=b:=by
 obtain⟨x,is⟩:=a;obtain⟨y,js⟩:=b;unfold lS at h;injection h with h1 h2
 injection h1 with h1
 have e:∀(is js:List Int),is.map V.int=js.map V.int->is=js:=by
  intro is
  induction is with
  | nil=>intro js h;cases js with
   | nil=>rfl
   | cons _ _=>cases h
  | cons i is ih=>intro js h;cases js with
   | nil=>cases h
   | cons j js=>
    rw[iF,iF]at h;injection h with h1 h2
    injection h1 with h1
    rw[h1,ih js h2]
 rw[show x=y from h1,e is js h2]
def my(mv:Mv):PyData:=.tuple (.str mv.1::mv.2.map jf)
theorem Tg:∀l m:List Int,AI (l.map jf) (m.map jf)=decide (l=m)
 | [],[]=>by simp[AI]
 | [],_::_=>by simp[AI]
 | _::_,[]=>by simp[AI]
 | a::l,b::m=>by
  rw[iF,iF];simp only[AI,tD];rw[Tg l m]
  by_cases h1:a=b
  ·subst h1
   by_cases h2:l=m
   ·subst h2;simp
   ·simp[h2]
  ·simp[h1]
theorem ali(a b:Mv):tD (my a) (my b)=decide (a=b):=by
 obtain⟨x,is⟩:=a;obtain⟨y,js⟩:=b;unfold my;simp only[tD,AI];rw[Tg]
 by_cases h1:x=y
 ·subst h1
  by_cases h2:is=js
  ·subst h2;simp
  ·simp[h2]
 ·simp[h1]
theorem alC(l:List Mv)(b:Mv):(l.map my).any (λd=>tD d (my b))=decide (b∈l):=by
 induction l with
 | nil=>simp
 | cons a l ih=>
  rw[iF,yP,ih,ali]
  by_cases h:a=b
  ·subst h;simp
  ·have h':¬b=a:=λz=>h z.symm;simp[h,h']
theorem Dz{mv:Mv}(h:lJ mv.1=true):shaped (my mv)=true:=by
 unfold my shaped;rw[fJ];refine⟨?_,decide_eq_true ?_⟩
 ·simp only[lp,kj];rw[h,oU];exact oX λa _=>rfl
 ·have h:=lL (f:=jf) (k:=1) (l:=mv.2) (λa _=>by simp[iT]);simp only[iT,lI];lia
theorem IJ{K:W.Frag}{H:Hp}:∀is:List Int,lD K H (is.map V.int) (is.map jf)
 | []=>.nil
 | i::is=>.cons (.int i) (IJ is)
theorem Br{K:W.Frag}{H:Hp}{p:Addr}{mv:Mv}(h:H p=some (.tup (lS mv))):eY K H (.ref p) (my mv):=.tup (aE.of h) (.cons (.str mv.1) (IJ mv.2))
section
variable{t:aZ}{C CT:Addr}{u:nJ}
def UT:Sp:=λvs H Q _=>∃p xs,vs=[.ref p]/\H p=some (.tup xs)/\(∀x∈xs,∃T,tyName H x=some T)/\xs.length<=1000/\∀H',af H H'->Q (.bl (Bz xs)) H'
theorem akj:bg ["move"] ["move"] (aQ L'):=bu
theorem agC:(["part"]:List Str).Nodup:=dk
theorem aiz{f:Addr}{fd:aV}(F:aW K "has_form_of_move" "has_form_of_move" L' f fd)(T:qk K mg t):aw P w K mg base az 2 f fd ["move"] UT:=by
 have GW:aw P w K mg base az 1 t.fW t.kU ["thing"] J':=SJ T.NS T.bl;refine F.ok akj (λvs H Q E h=>?_) λaI A _ s H vs Q E hr h=>?_
 ·refine a9 h λp xs aa _=>?_;clear h;subst aa;rfl
 ·obtain⟨a,xs,aa,ha,jV,hl,k⟩:=h;subst aa;have B:=T.bl
  refine⟨_,ax (cF (PW.pt (pw_or (nk (iX (cA jK rfl B.jU jc (ae (pv 0) (ae (pf (v:=.ty "tuple") rfl B.tuple uU rfl) ag))))) (pw_or (cw eC (cA iG rfl B.len PySem.boot_len (ae (pv 0) ag)) ay (bU _)) (pw_or1 (nk (iX (cA jK rfl B.jU jc (ae (aT du (pv 0) ay) (ae (pf (v:=.ty "str") rfl B.str boot_str rfl) ag))))))))) (aB (a8 kG)) cU) (aB (a8 (cA (DP rfl) rfl B.all boot_all (ae (ji (N:=["part"]) (idx:=[]) rfl (dN.of (by kernel_rfl)) (je (bX _))
    (tM (uZ Ed (pv 0) (vf ay) vg))
    (λ_ _ _ _=>de (i:=0) agC rfl (aR rfl) (.inr rfl))
    (λ_ _ _ _=>jt)
    λ_ _ _ _=>dF GW hr rfl T.mW T.NS.kp T.bW .nil aS (ae (pv 0) ag)) ag)))),?_⟩
  have hT:=tx ha;refine vr rfl (cY _ _ _ _ (gD _ rfl (nF hT) rfl (nz hT qc) (ar _ rfl (fk ?_))));cases xs with
  | nil=>
   refine vr rfl (dv a ([]) rfl (.inr (aE.of ha)) ⟨rfl,⟨_,rfl,cx (λe=>?_) λn0=>absurd rfl n0⟩⟩);exact iM (k H (af.refl H))
  | cons y ps=>
   refine vr rfl (dv a (y::ps) rfl (.inr (aE.of ha)) ⟨rfl,⟨_,rfl,cx (λe=>?_) λn0=>?_⟩⟩)
   ·injection e with e
    exact absurd e (by simp only[fG];lia)
   refine oE (jV y dE) λTy hy=>?_;refine kQ (v:=y) (j:=0) rfl ha rfl (cY _ _ _ _ (gD _ rfl (nF hy) rfl (nz hy qc) (ar _ rfl ?_)));refine By (λh1=>?_) λh1=>?_
   ·have e:Bz (y::ps)=false:=by
     cases y with
     | str x=>exact absurd ((Eo hy).mpr ⟨x,rfl⟩) (by rw[h1];exact dh)
     | _=>rfl
    have q:=k H (af.refl H);rw[e]at q;exact q
   refine oE ((Eo hy).mp h1) λx0 e0=>?_;subst e0;have k:∀H',af H H'->Q (.bl (ps.all qG)) H':=k;refine ar _ rfl (ar 1 rfl ⟨a,⟨_,rfl,aE.of ha,?_,λq hq=>?_⟩⟩)
   ·intro z;have z1:=z.1;rw[MQ]at z1;cases z1
   rw[WN];have s2:af H (upd H q (.tup ps)):=aH (af.refl H) hq;have uw:upd H q (.tup ps) q=some (.tup ps):=au;generalize upd H q (.tup ps)=H3 at s2 uw ⊢;have mV:ps.length<=1000:=by rw[fG]at hl;lia
   refine c8 q rfl ⟨_,aE.of uw⟩ ?_;refine iW (n:=ps.length) (λi ys H'=>i<=ps.length/\H'=H3/\ys=(ps.take i).map λz=>V.bl (qG z)) ?_ ?_ ?_ ?_ ?_ ?_ ?_
   ·exact cO (c9 w0)
   ·exact iq (bX _) rfl rfl
   ·rintro i ys H' ⟨_,_,e⟩;rw[e,aX,ff];exact xl
   ·rintro i ys H' hi ⟨_,rfl,_⟩;exact eW _ _ (aE.of uw) (bb hi)
   ·rintro ys H' ⟨_,rfl,_⟩;exact ar _ (aE.of uw) (aF _)
   ·rintro i ys H' hi ⟨_,rfl,e⟩ z fb ⟨eH,da⟩;subst eH;have hz:=da _ (aE.of uw);refine oE (jV z (dn _ (cQ hz))) λTx yx=>?_;have Ny:=rD s2 yx;dsimp only[jS,ij];rw[if_pos rfl];refine vr rfl (⟨z,Tx,rfl,Ny,hi,rfl,?_⟩);rw[lj,hz,km,<-e];rfl
   ·rintro ys H' ⟨_,rfl,e⟩;refine⟨?_,λr i7=>?_⟩
    ·rw[e,aX,ff];have:=c9 (n:=ps.length) w0;lia
    have ey:ys=(ps.map qG).map V.bl:=by
     rw[e,iE (aF _),yR];rfl
    refine dv r (ps.map qG) rfl (av.of (by rw[au,ey])) ?_;rw[AJ];exact k _ (aH s2 i7)
end
theorem mz.bounds{S:Mc}(w:mz S){c:Nat}{k:Ck}(h:S.ck[c]?=some k):k.es.length<=15000:=cu (w.es k (cQ h)) w.ac
def zU(S:Mc):Prop:=∀o∈S.ov,o.length<=16000
theorem adN{es:List Ent}{n:Nat}{e:Ent}(h:(bV es n).head?=some e):e.n=(n:Int):=by
 have hm:e∈bV es n:=List.mem_of_mem_head? h;unfold bV at hm;have:=(rm.mp hm).2;simpa using this
def jB(S:Mc)(a:Act):Mc:={ S with ac:=S.ac++[a] }
def zG(S:Mc)(c n:Nat)(k:Ck)(g:Int):Mc:={ S with ck:=S.ck.set c { k with tn:=k.tn+1,es:=k.es++[⟨k.tn,n,g,S.ac.length⟩] } }
def setM(S:Mc)(c n r:Nat):Mc:=match S.ck[c]? with
 | none=>S
 | some k=>
  let g:=k.rg.getD r 0
  let S':=jB (zG S c n k g) ⟨"set",c,n,none,some g,none⟩
  if S.kd = "none" then kE S' c n else S'
def gv(S:Mc)(c r:Nat)(v:Int):Mc:=match S.ck[c]? with
 | none=>S
 | some k=>{ S with ck:=S.ck.set c { k with rg:=k.rg.set r v } }
def dH(S:Mc)(k:Ck)(n:Nat):Int×Option Int:=match D5 k.es n with
 | some e=>(e.num,some e.d)
 | none=>(S.bd.getD n 0,(S.ov.getD n []).getLast?)
def pj(S:Mc)(c r n:Nat):Mc:=match S.ck[c]? with
 | none=>S
 | some k=>gv (jB S ⟨"look",c,n,some (dH S k n).1,none,(dH S k n).2⟩) c r (dH S k n).1
def qo(S:Mc)(c r n:Nat):Mc:=match S.ck[c]? with
 | none=>S
 | some k=>
  let g:=k.rg.getD r 0
  gv (jB (rO S n g S.ac.length) ⟨"swap",c,n,some (S.bd.getD n 0),some g,(S.ov.getD n []).getLast?⟩) c r (S.bd.getD n 0)
section
variable{t:aZ}{C CT:Addr}{u:nJ}
def Kc(t:aZ)(C CT PT:Addr):Sp:=λvs H Q _=>∃m A S c k n lab,vs=[.ref m,.int (c:Nat),.int (n:Nat)]/\aU t C CT H m A S/\jk lab m A/\cJ PT LP LQ H/\S.ck[c]?=some k/\(n:Int)∈ju S.kd k.es/\n<12/\S.bd.length=12/\S.ov.length=12/\zU S/\
 ∀H',aU t C CT H' m A (kE S c n)->aM (bG m A) H H'->cJ PT LP LQ H'->Q .aJ H'
theorem ah7:bg ["self","clerk","name"] ["self","clerk","name"] (aQ Lf):=bu
theorem agv{f fT fC PT jR:Addr}{fd nO lH:aV}(F:aW K "carry" "Machine.carry" Lf f fd)(cM:gw K C)(cT:lC K CT)
  (GT:aw P w K mg base (dg P w) 3 fT nO ["self","name"] (UO CT PT jR)) (bT:Binds K nO ["self","name"] []) (mT:Meth K CT "take" fT)
  (GC:aw P w K mg base az 1 fC lH ["self","setting"] (KS t C CT)) (bC:Binds K lH ["self","setting"] []) (mC:Meth K C "come" fC):aw P w K mg base az 4 f fd ["self","clerk","name"] (Kc t C CT PT):=by
 have PJ:=xq GT;refine F.ok ah7 (λvs H Q E h=>?_) λaI A _ s H vs Q E hr h=>?_
 ·obtain⟨m,A,S,c,k,n,lab,aa,_⟩:=h;subst aa;rfl
 ·obtain⟨m,A,S,c,k,n,lab,aa,M,L,bc⟩:=h;subst aa;obtain⟨hL,hk,hf,hn,hb,ho,kX,q⟩:=bc;have jE:=hr.mono (show 1<=3 by decide);refine nE (aB (dQ (iK (pv 0) cM.cl mC GC jE bC .nil aS (ae (iK (aT cI (a6 (pv 0) rfl) (pv 1)) cT.cl mT PJ hr bT .nil aS (ae (pv 2) ag)) ag)))) ?_;refine a9 (id M.obj) λdx fs hm G=>?_;refine ah (M.tX hk) λx hx T=>?_;refine iV (id T.obj) λkh jH ea e1 e2 e3 em el=>?_;refine vM rfl hm (G.ms _ dk) ?_;refine vF rfl hm cM.cl cM.fh G.fh (vr rfl (rL (v:=.ref x.1) (av.of M.lt) (AL hx) (rM ea (em _ dk) (vr rfl (⟨x.1,n,_,_,_,_,(gD _ rfl T hL (λ_ H1 e st he T1 k1 jG cR=>?_) λz=>absurd hf z)⟩)))));rw[lZ]at he;have en:=adN he;rw[en]at cR;have M1:=Vv M L hk hx k1 T1;refine⟨m,A,_,st,n,e.num,e.d,lab,rfl,M1,L,cR,hn,hb,(iq ho kX λH2 M2 k2 l2=>q H2 ?_ ((aM.NP k1 λb hb=>.ts (cQ hx) hb).trans k2) (l2.lam jG))⟩;unfold kE;rw[hk];dsimp only;rw[he];exact M2
theorem ai1(a:Addr)(n r:Nat):eM (.ref a) "set" ([n,r].map λ(n:Nat)=>V.int (n:Int))=aD "reg" (.int (r:Nat)) (aD "name" (.int (n:Nat)) (aD "parts" (.ref a) [])):=by
 unfold eM;rw[if_neg dk,if_neg dk,if_pos rfl];rfl
theorem aes{es:List Ent}{n:Nat}{e:Ent}(hn:n<12)(he:e.n=(n:Int)):(n:Int)∈mf (es++[e]):=by
 refine AU.mpr (c8 n hn rfl λz=>?_);rw[T9,if_pos he]at z;simp at z
def TH(t:aZ)(C CT PT:Addr):Sp:=λvs H Q _=>∃m A S c k z dz a n r lab,vs=[.ref m,.int (c:Nat),.ref z]/\aU t C CT H m A S/\jk lab m A/\mz S/\zU S/\cJ PT LP LQ H/\S.ck[c]?=some k/\H z=some (.ins t.kI dz (eM (.ref a) "set" ([n,r].map λ(n:Nat)=>V.int (n:Int))))/\n<12/\r<4/\
 ∀H',aU t C CT H' m A (setM S c n r)->aM (bG m A) H H'->cJ PT LP LQ H'->Q .aJ H'
theorem TY:bg ["self","clerk","step","gave"] ["self","clerk","step"] (aQ Ld):=bu
theorem agt{f fA fC PT:Addr}{fd CN lH:aV}(F:aW K "do_set" "Machine.do_set" Ld f fd)(cM:gw K C)(cT:lC K CT)(gd:mg "len" = none)(ST:qk K mg t)
  (GA:aw P w K mg base az 1 fA CN ["self","name","number","deed"] (VD CT)) (bA:Binds K CN ["self","name","number","deed"] []) (mA:Meth K CT "add" fA)
  (GC:aw P w K mg base az 4 fC lH ["self","clerk","name"] (Kc t C CT PT)) (bC:Binds K lH ["self","clerk","name"] []) (mC:Meth K C "carry" fC):aw P w K mg base az 5 f fd ["self","clerk","step"] (TH t C CT PT):=by
 refine F.ok TY (λvs H Q E h=>?_) λaI A _ s H vs Q E hr h=>?_
 ·refine l0 h λm A S c k z dz a n r aa=>?_;refine ah aa λlab aa _=>?_;subst aa;rfl
 ·refine l0 h λm A S c k z dz a n r aa=>?_;obtain⟨lab,aa,M,L,W,bc⟩:=aa;subst aa;obtain⟨kX,hL,hk,hz,hn,nN,q⟩:=bc;have jE:=hr.mono (show 1<=4 by decide);refine⟨_,ax (bZ (i:=3) TY.nd rfl (aR rfl) (aT cI (aT cI (a6 (pv 0) rfl) (pv 1)) (a6 (pv 2) rfl))) (ax (dQ (iK (aT cI (a6 (pv 0) rfl) (pv 1)) cT.cl mA GA jE bA .nil aS (ae (a6 (pv 2) rfl) (ae (pv 3) (ae (cA iG rfl gd PySem.boot_len (ae (a6 (pv 0) rfl) ag)) ag))))) (ax (dQ (mh PySem.F.plainAttrs_list PySem.F.slot_list_append PySem.F.type_list_append oZ (a6 (pv 0) rfl) (ae (eR (ae bw (ae (pv 1) (ae (a6 (pv 2) rfl) (ae rS (ae (pv 3) (ae rS ag))))))) ag))) (aB (cF (cw eC (a6 (pv 0) rfl) bw (bU _)) (aB (dQ (iK (pv 0) cM.cl mC GC hr bC .nil aS (ae (pv 1) (ae (a6 (pv 2) rfl) ag))))) cU)))),?_⟩;rw[ai1]at hz;refine a9 (id M.obj) λdx fs hm G=>?_;refine ah (M.dJ hk) λra jl jD=>?_;refine ah (M.tX hk) λx hx T=>?_;refine iV (id T.obj) λkh jH ea e1 e2 e3 em el=>?_;refine ah M.ac λws j' pP=>?_;have sP:=Paired.length pP;have Xv:=W.ac;have ao7:=W.bounds hk;have iw:=W.rg k (cQ hk)
  have Og:∀(nm:Str),(aD "reg" (.int (r:Nat)) (aD "name" (.int (n:Nat)) (aD "parts" (.ref a) []))).lookup nm=if nm = "reg" then some (.int (r:Nat)) else if nm = "name" then some (.int (n:Nat)) else if nm = "parts" then some (.ref a) else none:=λnm=>by
   rw[eP,eP,eP];rfl
  have lr:(aD "reg" (.int (r:Nat)) (aD "name" (.int (n:Nat)) (aD "parts" (.ref a) []))).lookup ("reg" : Str)=some (V.int (r:Nat)):=by rw[Og,if_pos rfl]
  have ln:(aD "reg" (.int (r:Nat)) (aD "name" (.int (n:Nat)) (aD "parts" (.ref a) []))).lookup ("name" : Str)=some (V.int (n:Nat)):=by rw[Og,if_neg dk,if_pos rfl]
  have hg:k.rg[r]?=some (k.rg[r]'wg):=bb wg;have eg:k.rg.getD r 0=k.rg[r]'wg:=vi hg;refine vF rfl hm cM.cl cM.dJ G.dJ (vr rfl (rL (v:=.ref ra) (av.of M.rg) (iY jl) ?_));refine vF rfl hz ST.r6 ST.VS lr (rL (av.of jD) (iY hg) ?_);generalize hgv:k.rg[r]'wg=g at eg;refine ar _ rfl (cY m C dx fs (g9 _ rfl hm cM.cl cM.fh G.fh (vr rfl (rL (v:=.ref x.1) (av.of M.lt) (AL hx) (rM ea (em _ dk) ?_)))));refine vF rfl hz ST.r6 ST.EH ln (vr rfl (vF rfl hm cM.cl cM.iB G.iB (dv A.ac ws rfl (.inl (av.of j')) ?_)));refine⟨x.1,n,g,_,_,_,_,_,(g9 _ rfl T li li w4 λH1 T1 k1=>?_)⟩;have kf:=gF.ofA k1 T1;have M1:=Vv M L hk hx kf T1;have ew:((ws.length:Nat):Int)=((S.ac.length:Nat):Int):=by rw[sP]
  rw[ew]at M1 T1
  have da:H1 z=some (.ins t.kI dz (aD "reg" (.int (r:Nat)) (aD "name" (.int (n:Nat)) (aD "parts" (.ref a) [])))):=k1 _ _ (λzb=>by
   rcases bq.mp zb with y | y
   ·rw[y,ea]at hz;cases hz;rw[Og,if_neg dk,if_neg dk,if_neg dk]at e1;cases e1
   ·rcases T.kinds z zb _ hz with ⟨_,_,_,_⟩ | ⟨_,y2⟩
    ·rcases bq.mp y with y | y
     ·rw[y,T.qs]at hz;cases hz
     ·refine oE (uH y) λi aa=>?_;refine oE aa λhi ez=>?_;obtain⟨oB,e',_⟩:=T.jC i z (by rw[<-ez];exact bb hi);rw[e']at hz;cases hz
    ·cases y2) hz
  have jG:cJ PT LP LQ H1:=AM hL k1 T.kinds;have kp1:aM (bG m A) H H1:=aM.NP kf λb hb=>.ts (cQ hx) hb;refine a9 (id M1.obj) λlh gX iy G1=>?_;refine ah M1.ac λFQ Fn aoG=>?_;refine ar _ rfl (cY m C lh gX (⟨_,rfl,iy,cM.cl,cM.iB,G1.iB,(.inl ⟨rfl,_,av.of Fn⟩),?_⟩));refine ar _ rfl (vF rfl da ST.r6 ST.EH ln (vr rfl ⟨by show 6<=aP;decide,(λtp ht=>?_)⟩));have s2:=aH (o:=.tup [.str "set",.int (c:Nat),.int (n:Nat),.aJ,.int g,.aJ]) (af.refl H1) ht;have aoI:=Paired.length aoG;refine jh A.ac FQ (.ref tp) rfl rfl (s2 _ _ Fn) (by rw[aoI,lu];show S.ac.length<_;exact wb) ?_;have M2:=LV (M1.same s2) L (s2 _ _ Fn) (x:=.ref tp) (a:=⟨"set",c,n,none,some g,none⟩) ⟨tp,rfl,au⟩;have sO:aM (bG m A) H (upd (upd H1 tp (.tup [.str "set",.int (c:Nat),.int (n:Nat),.aJ,.int g,.aJ])) A.ac (.lst (FQ++[.ref tp]))):=kp1.trans ((aM.of s2).trans (aM.upd .ac));have l2:KL H1 (upd (upd H1 tp (.tup [.str "set",.int (c:Nat),.int (n:Nat),.aJ,.int g,.aJ])) A.ac (.lst (FQ++[.ref tp]))):=(KL.of s2).trans (KL.upd (s2 _ _ Fn));have kZ:=l2.lam jG;have qN:=l2 _ _ (λxs z=>by cases z) da;generalize upd (upd H1 tp (.tup [.str "set",.int (c:Nat),.int (n:Nat),.aJ,.int g,.aJ])) A.ac (.lst (FQ++[.ref tp]))=H2 at M2 sO l2 kZ qN ⊢;refine a9 (id M2.obj) λuF i6 jY G3=>?_
  have eS:setM S c n r=if S.kd = "none" then kE (jB (zG S c n k g) ⟨"set",c,n,none,some g,none⟩) c n else jB (zG S c n k g) ⟨"set",c,n,none,some g,none⟩:=by
   unfold setM;rw[hk];dsimp only;rw[eg]
  rw[eS]at q;refine ar _ rfl (cY m C uF i6 (g9 _ rfl jY cM.cl cM.kind G3.kind ⟨rfl,⟨_,rfl,cx (λjF=>?_) λjF=>?_⟩⟩))
  ·have zL:S.kd = "none":=EX jF;rw[if_pos zL]at q;have qU:c<S.ck.length:=(eJ.mp hk).1;refine vM rfl jY (G3.ms _ dk) (vr rfl (vF rfl qN ST.r6 ST.EH ln ?_));refine⟨m,A,(jB (zG S c n k g) ⟨"set",c,n,none,some g,none⟩),c,({ k with tn:=k.tn+1,es:=k.es++[⟨k.tn,n,g,S.ac.length⟩] }),n,lab,rfl,M2,L,kZ,?_,?_,hn,(⟨W.bd,W.ov,kX,(λH3 M3 k3 oN=>q H3 M3 (sO.trans k3) oN)⟩)⟩
   ·show (S.ck.set c _)[c]?=some _;rw[mZ qU]
   ·show (n:Int)∈ju S.kd (k.es++[⟨k.tn,n,g,S.ac.length⟩]);unfold ju;rw[zL,if_neg dk];exact aes hn rfl
  ·have zL:¬S.kd = "none":=λe=>jF (by rw[e]);rw[if_neg zL]at q;exact q H2 M2 sO kZ
end
end TL
namespace L2
open PySem PySem.Spec PyProof.Rows PySem.SeqAt
theorem agU{X:Cx}:WR X (λx y H Q=>∃p xs,∃i:Nat,∃v,x=.ref p/\y=.int (i:Nat)/\H p=some (.lst xs)/\xs[i]?=some v/\Q v H):=by
 intro p_ s σ H o i ov iv Q I r1 r2 h;refine ph h λp xs j z aa bc=>?_;clear h;subst aa;obtain⟨aa,hq,he,q⟩:=bc;subst aa;cases r1;refine oE r2 λt aa=>?_;clear r2;subst aa;refine aL (I.list (av.of hq)) λak r pl hz=>?_;refine ah (r.get he) λw ew yb=>?_;have hl:=r.length;have hn:=Bt;have hj:j<xs.length:=(eJ.mp he).1;exact wpAny_getItem_list pl.isList li li (by rw[lZ];simpa using ew) ⟨z,H,I,yb,q⟩
end L2
namespace TL
open PySem PySem.Spec PyProof.Rows PySem.SeqAt L2 L3 L4
theorem ai2(a:Addr)(r n:Nat):eM (.ref a) "put" ([r,n].map λ(n:Nat)=>V.int (n:Int))=aD "number" (.int (n:Nat)) (aD "reg" (.int (r:Nat)) (aD "parts" (.ref a) [])):=by
 unfold eM;rw[if_pos rfl];rfl
theorem ai3(a:Addr)(r n:Nat):eM (.ref a) "add" ([r,n].map λ(n:Nat)=>V.int (n:Int))=aD "other" (.int (n:Nat)) (aD "reg" (.int (r:Nat)) (aD "parts" (.ref a) [])):=by
 unfold eM;rw[if_neg dk,if_pos rfl];rfl
theorem ag2(a:Addr)(r n:Nat):eM (.ref a) "skip" ([r,n].map λ(n:Nat)=>V.int (n:Int))=aD "place" (.int (n:Nat)) (aD "reg" (.int (r:Nat)) (aD "parts" (.ref a) [])):=by
 unfold eM;rw[if_neg dk,if_neg dk,if_neg dk,if_neg dk,if_neg dk,if_neg dk];rfl
theorem Lu{x y:Str}{v u:V}{a:Addr}:(aD x v (aD y u (aD "parts" (.ref a) []))).lookup x=some v:=by rw[eP,if_pos rfl]
theorem En{x y:Str}{v u:V}{a:Addr}(h:y≠x):(aD x v (aD y u (aD "parts" (.ref a) []))).lookup y=some u:=by rw[eP,if_neg h,eP,if_pos rfl]
def jM(s:Tl)(rg:List Int)(pl:Nat):Nat:=if s.1 = "skip"/\rg.getD (s.2.getD 0 0) 0=0 then s.2.getD 1 0 else pl+1
def cy(S:Mc)(c:Nat)(s:Tl):Mc:=
 if s.1 = "put" then gv S c (s.2.getD 0 0) (s.2.getD 1 0:Nat)
 else if s.1 = "add" then (match S.ck[c]? with
  | none=>S
  | some k=>gv S c (s.2.getD 0 0) ((k.rg.getD (s.2.getD 0 0) 0+k.rg.getD (s.2.getD 1 0) 0)%mm))
 else if s.1 = "set" then setM S c (s.2.getD 0 0) (s.2.getD 1 0)
 else if s.1 = "look" then pj S c (s.2.getD 0 0) (s.2.getD 1 0)
 else if s.1 = "swap" then qo S c (s.2.getD 0 0) (s.2.getD 1 0)
 else S
def qB(S:Mc)(c:Nat)(s:Tl):Mc:=match S.ck[c]? with
 | none=>S
 | some k=>{ S with ck:=S.ck.set c { k with pl:=jM s k.rg k.pl,ct:=k.ct+1 } }
def vY(S:Mc)(c:Nat):Mc:=match S.ck[c]?,S.ps[c]? with
 | some k,some p=>(match p[k.pl]? with
  | some s=>qB (cy S c s) c s
  | none=>S)
 | _,_=>S
section
variable{t:aZ}{C CT:Addr}{H:Hp}{m:Addr}{A:MA}{S:Mc}
theorem aU.ahT(M:aU t C CT H m A S){z cz dz a:Addr}{x:Str}{ps:List V}(hz:H z=some (.ins cz dz (eM (.ref a) x ps))):¬bG m A z:=by
 intro hb;cases hb with
 | m=>
  refine a9 M.obj λdx fs h G=>?_;rw[h]at hz;cases hz;have e:=G.fh;rw[xj "trays" dk]at e;cases e
 | lt=>rw[M.lt]at hz;cases hz
 | pl=>rw[M.pl]at hz;cases hz
 | ct=>rw[M.ct]at hz;cases hz
 | rg=>rw[M.rg]at hz;cases hz
 | ce=>rw[M.ce]at hz;cases hz
 | ac=>obtain⟨vs,h,_⟩:=M.ac;rw[h]at hz;cases hz
 | cm=>rw[M.cm]at hz;cases hz
 | rs h=>
  refine ah (lK M.rs h) λc _ q=>?_;rw[q]at hz;cases hz
 | cs h=>
  refine ah (lK M.cs h) λc _ q=>?_;rw[q]at hz;cases hz
 | ts h h2=>
  refine ah (lK M.ts h) λc _ T=>?_;refine iV (id T.obj) λkh jH ea e1 e2 e3 em el=>?_;rcases bq.mp h2 with y | y
  ·rw[y,ea]at hz;cases hz;rw[xj _ dk]at e1;cases e1
  ·rcases bq.mp y with y | y
   ·rw[y,T.qs]at hz;cases hz
   ·refine oE (uH y) λi aa=>?_;refine oE aa λhi ez=>?_;obtain⟨oB,e',_⟩:=T.jC i z (by rw[<-ez];exact bb hi);rw[e']at hz;cases hz
end
section
variable{P:Program}{w:World}{K:W.Frag}{mg:Str->Option Value}{base:Heap}{t:aZ}{C CT:Addr}{u:nJ}
def Qs(t:aZ):Sp:=λvs H Q _=>∃z a dz s sz ra rg,∃pl:Nat,vs=[.ref z,.int (pl:Nat),.ref ra]/\H z=some (.ins (cZ t s.1) dz (eM (.ref a) s.1 (s.2.map λ(n:Nat)=>V.int (n:Int))))/\di sz s/\H ra=some (.lst (rg.map V.int))/\rg.length=4/\Q (.int (jM s rg pl:Nat)) H
theorem ab1:bg ["step","place","regs"] ["step","place","regs"] (aQ Ig):=bu
theorem abB{f:Addr}{fd:aV}(F:aW K "place_behind" "place_behind" Ig f fd)(O:zH K mg t u):aw P w K mg base az 1 f fd ["step","place","regs"] (Qs t):=by
 refine F.ok ab1 (λvs H Q E h=>?_) λaI A _ s H vs Q E hr h=>?_
 ·obtain⟨z,a,dz,s,sz,ra,rg,pl,aa,_⟩:=h;subst aa;rfl
 ·obtain⟨z,a,dz,s,sz,ra,rg,pl,aa,hz,g,jl,jD,q⟩:=h;subst aa;refine⟨_,ax (cF (PW.pt (pw_and (iX (cA jK rfl O.st.bl.jU jc (ae (pv 0) (ae (fV (v:=.ref t.gq) rfl O.st.Ls rfl) ag)))) (pw_and1 (cw eC (aT cI (pv 2) (a6 (pv 0) rfl)) ay (bU _))))) (aB (a8 (a6 (pv 0) rfl))) cU) (aB (a8 (a7 kz (pv 1) ay))),?_⟩;refine ah (U' O g hz) λD ty c6=>?_;refine vr rfl (cY _ (.ref t.gq) _ (.ref t.gq) (gD _ rfl ty rfl c6.vv (tk (cx (λhs=>?_) λhs=>?_))))
  ·cases g with
   | skip r p h1 h2 h3=>
    have hz:H z=some (.ins (cZ t "skip") dz (eM (.ref a) "skip" ([r,p].map λ(n:Nat)=>V.int (n:Int)))):=hz;rw[JP,ag2]at hz;have hg:rg[r]?=some (rg[r]'wg):=bb wg;have eg:rg.getD r 0=rg[r]'wg:=vi hg;refine vr rfl (vF rfl hz O.st.tQ O.st.U3 (En dk) (rL (av.of jl) (iY hg) ⟨rfl,⟨_,rfl,cx (λh0=>?_) λh0=>?_⟩⟩))
    ·have e:jM ("skip",[r,p]) rg pl=p:=by
      unfold jM;rw[if_pos ⟨rfl,by show rg.getD r 0=0;rw[eg];injection h0⟩];rfl
     rw[e]at q;exact vF rfl hz O.st.tQ O.st.Lp Lu q
    ·have e:jM ("skip",[r,p]) rg pl=pl+1:=by
      unfold jM;rw[if_neg λh=>h0 (by have:=h.2;rw[<-show rg.getD r 0=rg[r]'wg from eg];show V.int (rg.getD r 0)=_;rw[show rg.getD r 0=0 from this])]
     rw[e]at q;exact ar _ rfl ⟨_,⟨_,rfl,rfl,q⟩⟩
   | put=>exact absurd (show ("put" : Str) = "skip" from hs) dk
   | add=>exact absurd (show ("add" : Str) = "skip" from hs) dk
   | set=>exact absurd (show ("set" : Str) = "skip" from hs) dk
   | look=>exact absurd (show ("look" : Str) = "skip" from hs) dk
   | swap=>exact absurd (show ("swap" : Str) = "skip" from hs) dk
   | clear=>exact absurd (show ("clear" : Str) = "skip" from hs) dk
  ·have e:jM s rg pl=pl+1:=by
    unfold jM;rw[if_neg λh=>hs h.1]
   rw[e]at q;exact ar _ rfl ⟨_,⟨_,rfl,rfl,q⟩⟩
end
end TL
namespace L2
open PySem PySem.Spec PyProof.Rows
theorem eE.WI{X:Cx}{ss:List Stmt}{t t':TS}(h:eE X ss t)(hi:∀D σ H,t' D σ H->t D σ H):eE X ss t':=λp_ s σ H D I q=>h p_ s σ H D I (hi D σ H q)
end L2
namespace TL
open PySem PySem.Spec PyProof.Rows PySem.SeqAt L2 L3 L4
variable{P:Program}{w:World}{K:PySem.W.Frag}{mg:Str->Option Value}{base:Heap}
theorem Te(a:Addr)(r n:Nat):eM (.ref a) "look" ([r,n].map λ(n:Nat)=>V.int (n:Int))=aD "name" (.int (n:Nat)) (aD "reg" (.int (r:Nat)) (aD "parts" (.ref a) [])):=by
 unfold eM;rw[if_neg dk,if_neg dk,if_neg dk,if_pos rfl];rfl
theorem ag1(a:Addr)(r n:Nat):eM (.ref a) "swap" ([r,n].map λ(n:Nat)=>V.int (n:Int))=aD "name" (.int (n:Nat)) (aD "reg" (.int (r:Nat)) (aD "parts" (.ref a) [])):=by
 unfold eM;rw[if_neg dk,if_neg dk,if_neg dk,if_neg dk,if_pos rfl];rfl
theorem zc(n r:Nat)(a:Addr):(aD "name" (.int (n:Nat)) (aD "reg" (.int (r:Nat)) (aD "parts" (.ref a) []))).lookup ("name" : Str)=some (V.int (n:Nat)):=by rw[eP,if_pos rfl]
theorem Lv(n r:Nat)(a:Addr):(aD "name" (.int (n:Nat)) (aD "reg" (.int (r:Nat)) (aD "parts" (.ref a) []))).lookup ("reg" : Str)=some (V.int (r:Nat)):=by rw[eP,if_neg dk,eP,if_pos rfl]
section
variable{t:aZ}{C CT:Addr}{u:nJ}
def Sz(t:aZ)(C CT:Addr):Sp:=λvs H Q _=>∃m A S c k z dz a r n lab,vs=[.ref m,.int (c:Nat),.ref z]/\aU t C CT H m A S/\jk lab m A/\mz S/\S.ck[c]?=some k/\H z=some (.ins t.lB dz (eM (.ref a) "look" ([r,n].map λ(n:Nat)=>V.int (n:Int))))/\r<4/\n<12/\
 ∀H',aU t C CT H' m A (pj S c r n)->aM (bG m A) H H'->KL H H'->Q .aJ H'
theorem Js:bg ["self","clerk","step","setting"] ["self","clerk","step"] (aQ Kq):=bu
theorem aeX{f fL fB:Addr}{fd wG ow:aV}(F:aW K "do_look" "Machine.do_look" Kq f fd)(cM:gw K C)(cT:lC K CT)(ST:qk K mg t)
  (GL:aw P w K mg base az 1 fL wG ["self","name"] (Sv CT)) (bL:Binds K wG ["self","name"] []) (mL:Meth K CT "latest" fL)
  (GB:aw P w K mg base az 1 fB ow ["self","name"] (IT t C CT)) (bB:Binds K ow ["self","name"] []) (mB:Meth K C "on_board" fB):aw P w K mg base az 2 f fd ["self","clerk","step"] (Sz t C CT):=by
 refine F.ok Js (λvs H Q E h=>?_) λaI A _ s H vs Q E hr h=>?_
 ·refine l0 h λm A S c k z dz a r n aa=>?_;refine ah aa λlab aa _=>?_;subst aa;rfl
 ·refine l0 h λm A S c k z dz a r n aa=>?_;obtain⟨lab,aa,M,L,W,hk,hz,nN,hn,q⟩:=aa;subst aa;refine⟨_,ax (bZ (i:=3) Js.nd rfl (aR rfl) (iK (aT cI (a6 (pv 0) rfl) (pv 1)) cT.cl mL GL hr bL .nil aS (ae (a6 (pv 2) rfl) ag))) (ax (cF (cw U2 (pv 3) rS (bU _)) (aB (bZ (i:=3) Js.nd rfl (aR rfl) (iK (pv 0) cM.cl mB GB hr bB .nil aS (ae (a6 (pv 2) rfl) ag)))) cU) (eE.WI (t':=λD σ H1=>∃st x,σ=[some (.ref m),some (.int (c:Nat)),some (.ref z),some (.ref st)]/\H1 st=some (.tup [x,.int (dH S k n).1,oV (dH S k n).2])/\af H H1/\∀σ' H',aU t C CT H' m A (pj S c r n)->aM (bG m A) H H'->KL H H'->D.nx σ' H') (ax (dQ (mh PySem.F.plainAttrs_list PySem.F.slot_list_append PySem.F.type_list_append oZ (a6 (pv 0) rfl) (ae (eR (ae bw (ae (pv 1) (ae (a6 (pv 2) rfl) (ae (aT du (pv 3) ay) (ae rS (ae (aT du (pv 3) ay) ag))))))) ag))) (aB (zg (aT du (pv 3) ay) (zl (aT cI (a6 (pv 0) rfl) (pv 1)) (a6 (pv 2) rfl) set_list)))) ?tl)),?_⟩
  case tl=>
   rintro D σ H1 ⟨st,x,rfl,cR,s1,q⟩;rw[Te]at hz;have M1:=M.same s1;refine a9 (id M1.obj) λdx fs hm G=>?_;refine ah M1.ac λws j' pP=>?_;have da:=s1 _ _ hz;refine vF rfl hm cM.cl cM.iB G.iB ⟨.inl ⟨rfl,_,av.of j'⟩,?_⟩;refine ar _ rfl (vF rfl da ST.rV ST.Em (zc n r a) (kQ (j:=1) rfl cR rfl ?_));refine kQ (j:=2) rfl cR rfl ⟨by show 6<=aP;decide,(λtp ht=>?_)⟩;have s2:=aH (o:=.tup [.str "look",.int (c:Nat),.int (n:Nat),.int (dH S k n).1,.aJ,oV (dH S k n).2]) (af.refl H1) ht;have sP:=Paired.length pP;have Xv:=W.ac;refine jh A.ac ws (.ref tp) rfl rfl (s2 _ _ j') (by rw[sP,lu];exact wb) ?_;have M2:=LV (M1.same s2) L (s2 _ _ j') (x:=.ref tp) (a:=⟨"look",c,n,some (dH S k n).1,none,(dH S k n).2⟩) ⟨tp,rfl,au⟩;have sO:aM (bG m A) H (upd (upd H1 tp (.tup [.str "look",.int (c:Nat),.int (n:Nat),.int (dH S k n).1,.aJ,oV (dH S k n).2])) A.ac (.lst (ws++[.ref tp]))):=(aM.of s1).trans ((aM.of s2).trans (aM.upd .ac));have l2:KL H1 (upd (upd H1 tp (.tup [.str "look",.int (c:Nat),.int (n:Nat),.int (dH S k n).1,.aJ,oV (dH S k n).2])) A.ac (.lst (ws++[.ref tp]))):=(KL.of s2).trans (KL.upd (s2 _ _ j'));have qN:=l2 _ _ (λxs z=>by cases z) da;have zK:=l2.tup _ _ cR;generalize upd (upd H1 tp (.tup [.str "look",.int (c:Nat),.int (n:Nat),.int (dH S k n).1,.aJ,oV (dH S k n).2])) A.ac (.lst (ws++[.ref tp]))=H2 at M2 sO l2 qN zK ⊢;refine a9 (id M2.obj) λuF i6 jY G3=>?_;refine ah (M2.dJ (k:=k) hk) λra jl jD=>?_;have iw:=W.rg k (cQ hk);refine kQ (j:=1) rfl zK rfl ?_;refine vF rfl jY cM.cl cM.dJ G3.dJ (vr rfl (rL (v:=.ref ra) (av.of M2.rg) (iY jl) ?_));refine vF rfl qN ST.rV ST.U4 (Lv n r a) (qd ra _ _ r rfl rfl jD (xv (by rw[aX,iw];exact nN)) ?_);have M3:=Ex M2 L (k:=k) hk jl r (dH S k n).1;refine q _ _ ?_ (sO.trans (aM.upd (.rs (cQ jl)))) ((KL.of s1).trans (l2.trans (KL.upd jD)))
   have e:pj S c r n={ (jB S ⟨"look",c,n,some (dH S k n).1,none,(dH S k n).2⟩)with ck:=S.ck.set c { k with rg:=k.rg.set r (dH S k n).1 } }:=by
    unfold pj;rw[hk];dsimp only;unfold gv;rw[show (jB S ⟨"look",c,n,some (dH S k n).1,none,(dH S k n).2⟩).ck[c]?=some k from hk];rfl
   rw[e];exact M3
  refine a9 (id M.obj) λdx fs hm G=>?_;refine ah (M.tX hk) λx hx T=>?_;refine iV (id T.obj) λkh jH ea e1 e2 e3 em el=>?_;have ao7:=W.bounds hk;have Gg:=hz;rw[Te]at Gg;refine vF rfl hm cM.cl cM.fh G.fh (vr rfl (rL (v:=.ref x.1) (av.of M.lt) (AL hx) (rM ea (em _ dk) ?_)));refine vF rfl Gg ST.rV ST.Em (zc n r a) (⟨x.1,n,_,_,_,_,(⟨_,rfl,T,li,li,w4,(λkY=>?_),(λe st he cR=>?_)⟩)⟩)
  ·rw[lZ]at kY;refine ar _ rfl ⟨rfl,⟨_,rfl,cx (λ_=>?_) λy=>absurd rfl y⟩⟩;refine vM rfl hm (G.ms _ dk) (vF rfl Gg ST.rV ST.Em (zc n r a) (iU m A S n rfl M hn W.bd W.ov λtp ht=>?_));have es:dH S k n=(S.bd.getD n 0,(S.ov.getD n []).getLast?):=by unfold dH;rw[kY]
   refine qi tp (.int (n:Nat)) rfl ?_ (aH (af.refl H) ht) λσ' H' h1 h2 h3=>q H' h1 h2 h3;rw[au,es];rfl
  ·rw[lZ]at he;refine ar _ rfl ⟨rfl,⟨_,rfl,cx (λy=>by cases y) λ_=>?_⟩⟩;have es:dH S k n=(e.num,some e.d):=by unfold dH;rw[he]
   exact qi st (.int e.n) rfl (by rw[es];exact cR) (af.refl H) λσ' H' h1 h2 h3=>q H' h1 h2 h3
def Sx(t:aZ)(C CT:Addr):Sp:=λvs H Q _=>∃m A S c k z dz a r n lab,vs=[.ref m,.int (c:Nat),.ref z]/\aU t C CT H m A S/\jk lab m A/\mz S/\zU S/\S.ck[c]?=some k/\H z=some (.ins t.lA dz (eM (.ref a) "swap" ([r,n].map λ(n:Nat)=>V.int (n:Int))))/\r<4/\n<12/\
 ∀H',aU t C CT H' m A (qo S c r n)->aM (bG m A) H H'->KL H H'->Q .aJ H'
theorem Jq:bg ["self","clerk","step","gave","setting"] ["self","clerk","step"] (aQ Kn):=bu
theorem aeV{f fB fC:Addr}{fd ow lH:aV}(F:aW K "do_swap" "Machine.do_swap" Kn f fd)(cM:gw K C)(ST:qk K mg t)(gd:mg "len" = none)
  (GB:aw P w K mg base az 1 fB ow ["self","name"] (IT t C CT)) (bB:Binds K ow ["self","name"] []) (mB:Meth K C "on_board" fB)
  (GC:aw P w K mg base az 1 fC lH ["self","setting"] (KS t C CT)) (bC:Binds K lH ["self","setting"] []) (mC:Meth K C "come" fC):aw P w K mg base az 2 f fd ["self","clerk","step"] (Sx t C CT):=by
 refine F.ok Jq (λvs H Q E h=>?_) λaI A _ s H vs Q E hr h=>?_
 ·refine l0 h λm A S c k z dz a r n aa=>?_;refine ah aa λlab aa _=>?_;subst aa;rfl
 ·refine l0 h λm A S c k z dz a r n aa=>?_;obtain⟨lab,aa,M,L,W,kX,hk,hz,nN,hn,q⟩:=aa;subst aa;refine⟨_,ax (bZ (i:=3) Jq.nd rfl (aR rfl) (aT cI (aT cI (a6 (pv 0) rfl) (pv 1)) (a6 (pv 2) rfl))) (ax (bZ (i:=4) Jq.nd rfl (aR rfl) (iK (pv 0) cM.cl mB GB hr bB .nil aS (ae (a6 (pv 2) rfl) ag))) (ax (dQ (iK (pv 0) cM.cl mC GC hr bC .nil aS (ae (eR (ae (a6 (pv 2) rfl) (ae (pv 3) (ae (cA iG rfl gd PySem.boot_len (ae (a6 (pv 0) rfl) ag)) ag)))) ag))) (ax (dQ (mh PySem.F.plainAttrs_list PySem.F.slot_list_append PySem.F.type_list_append oZ (a6 (pv 0) rfl) (ae (eR (ae bw (ae (pv 1) (ae (a6 (pv 2) rfl) (ae (aT du (pv 4) ay) (ae (pv 3) (ae (aT du (pv 4) ay) ag))))))) ag))) (aB (zg (aT du (pv 4) ay) (zl (aT cI (a6 (pv 0) rfl) (pv 1)) (a6 (pv 2) rfl) set_list)))))),?_⟩;rw[ag1]at hz;refine a9 (id M.obj) λdx fs hm G=>?_;refine ah (M.dJ hk) λra jl jD=>?_;have iw:=W.rg k (cQ hk);have hg:k.rg[r]?=some (k.rg[r]'wg):=bb wg;have eg:k.rg.getD r 0=k.rg[r]'wg:=vi hg;refine vF rfl hm cM.cl cM.dJ G.dJ (vr rfl (rL (v:=.ref ra) (av.of M.rg) (iY jl) ?_));refine vF rfl hz ST.qj ST.Lq (Lv n r a) (rL (av.of jD) (iY hg) ?_);generalize k.rg[r]'wg=g at eg;refine vM rfl hm (G.ms _ dk) (vF rfl hz ST.qj ST.El (zc n r a) (iU m A S n rfl M hn W.bd W.ov λst aoN=>?_));have s1:=aH (o:=.tup (Bw S n)) (af.refl H) aoN;have cR:upd H st (.tup (Bw S n)) st=some (.tup [.int (n:Nat),.int (S.bd.getD n 0),oV (S.ov.getD n []).getLast?]):=au;have M1:=M.same s1;generalize upd H st (.tup (Bw S n))=H1 at s1 cR M1 ⊢;refine ah M1.ac λws j' pP=>?_;have sP:=Paired.length pP;have Xv:=W.ac;refine vM rfl (s1 _ _ hm) (G.ms _ dk) ?_;refine vF rfl (s1 _ _ hz) ST.qj ST.El (zc n r a) (vr rfl (vF rfl (s1 _ _ hm) cM.cl cM.iB G.iB (qi A.ac ws rfl (.inl (av.of j')) (by show 3<=aP;decide) λtp ht=>?_)));have s2:=aH (o:=.tup [.int (n:Nat),.int g,.int (ws.length:Nat)]) (af.refl H1) ht;refine⟨m,A,S,tp,n,g,(ws.length:Nat),lab,rfl,(M1.same s2),L,au,hn,W.bd,(iq W.ov kX λH2 M2 k2 l2=>?_)⟩;have Oh:KL H1 H2:=(KL.of s2).trans l2;have qN:=Oh _ _ (λxs z=>by cases z) (s1 _ _ hz);have zK:=Oh.tup _ _ cR;refine a9 (id M2.obj) λuF i6 jY G3=>?_;refine ah M2.ac λB2 Fm BR=>?_;have aoH:B2.length=S.ac.length:=Paired.length BR;refine ar _ rfl (cY m C uF i6 (⟨_,rfl,jY,cM.cl,cM.iB,G3.iB,(.inl ⟨rfl,_,av.of Fm⟩),?_⟩));refine ar _ rfl (vF rfl qN ST.qj ST.El (zc n r a) (kQ (j:=1) rfl zK rfl ?_));refine vr rfl (kQ (j:=2) rfl zK rfl ⟨by show 6<=aP;decide,(λtq hq=>?_)⟩);have s3:=aH (o:=.tup [.str "swap",.int (c:Nat),.int (n:Nat),.int (S.bd.getD n 0),.int g,oV (S.ov.getD n []).getLast?]) (af.refl H2) hq;refine jh A.ac B2 (.ref tq) rfl rfl (s3 _ _ Fm) (by rw[aoH,lu];exact wb) ?_;have M3:=LV (M2.same s3) L (s3 _ _ Fm) (x:=.ref tq) (a:=⟨"swap",c,n,some (S.bd.getD n 0),some g,(S.ov.getD n []).getLast?⟩) ⟨tq,rfl,au⟩;have Y7:aM (bG m A) H (upd (upd H2 tq (.tup [.str "swap",.int (c:Nat),.int (n:Nat),.int (S.bd.getD n 0),.int g,oV (S.ov.getD n []).getLast?])) A.ac (.lst (B2++[.ref tq]))):=((aM.of s1).trans ((aM.of s2).trans k2)).trans ((aM.of s3).trans (aM.upd .ac));have l3:KL H2 (upd (upd H2 tq (.tup [.str "swap",.int (c:Nat),.int (n:Nat),.int (S.bd.getD n 0),.int g,oV (S.ov.getD n []).getLast?])) A.ac (.lst (B2++[.ref tq]))):=(KL.of s3).trans (KL.upd (s3 _ _ Fm));have Gf:=l3 _ _ (λxs z=>by cases z) qN;have Xb:=l3.tup _ _ zK;generalize upd (upd H2 tq (.tup [.str "swap",.int (c:Nat),.int (n:Nat),.int (S.bd.getD n 0),.int g,oV (S.ov.getD n []).getLast?])) A.ac (.lst (B2++[.ref tq]))=H3 at M3 Y7 l3 Gf Xb ⊢;refine a9 (id M3.obj) λHc qY sS G4=>?_;refine ah (M3.dJ (k:=k) hk) λYr Nn Xc=>?_;refine kQ (j:=1) rfl Xb rfl ?_;refine vF rfl sS cM.cl cM.dJ G4.dJ (vr rfl (rL (v:=.ref Yr) (av.of M3.rg) (iY Nn) ?_));refine vF rfl Gf ST.qj ST.Lq (Lv n r a) (qd Yr _ _ r rfl rfl Xc (xv (by rw[aX,iw];exact nN)) ?_);have M4:=Ex M3 L (k:=k) hk Nn r (S.bd.getD n 0);refine q _ ?_ (Y7.trans (aM.upd (.rs (cQ Nn)))) ((KL.of s1).trans (Oh.trans (l3.trans (KL.upd Xc))))
  have e:qo S c r n={ (jB (rO S n g (ws.length:Nat)) ⟨"swap",c,n,some (S.bd.getD n 0),some g,(S.ov.getD n []).getLast?⟩)with ck:=S.ck.set c { k with rg:=k.rg.set r (S.bd.getD n 0) } }:=by
   unfold qo;rw[hk];dsimp only;rw[eg,sP];unfold gv;rw[show (jB (rO S n g (S.ac.length:Nat)) ⟨"swap",c,n,some (S.bd.getD n 0),some g,(S.ov.getD n []).getLast?⟩).ck[c]?=some k from hk];rfl
  rw[e];exact M4
end
section
variable{S:Mc}{c:Nat}{k:Ck}
structure WT(S S':Mc)(c:Nat)(k k':Ck):Prop where
 at':S'.ck[c]?=some k'
 pl:k'.pl=k.pl
 ct:k'.ct=k.ct
 rg:k'.rg.length=k.rg.length
theorem D0{r:Nat}{v:Int}(hk:S.ck[c]?=some k):WT S (gv S c r v) c k { k with rg:=k.rg.set r v }:=by
 have e:gv S c r v={ S with ck:=S.ck.set c { k with rg:=k.rg.set r v } }:=by unfold gv;rw[hk]
 rw[e];exact⟨mZ (eJ.mp hk).1,rfl,rfl,qa⟩
theorem alp{sz:Nat}{s:Tl}(g:di sz s)(hk:S.ck[c]?=some k):∃k',WT S (cy S c s) c k k':=by
 have hc:c<S.ck.length:=(eJ.mp hk).1;cases g with
 | put r n h1 h2=>exact⟨_,D0 hk⟩
 | add r o h1 h2=>
  have e:cy S c ("add",[r,o])=gv S c r ((k.rg.getD r 0+k.rg.getD o 0)%mm):=by
   unfold cy;rw[if_neg (show ¬("add" : Str) = "put" from dk),if_pos rfl,hk];rfl
  rw[e];exact⟨_,D0 hk⟩
 | set n r h1 h2=>
  have e:cy S c ("set",[n,r])=setM S c n r:=by
   unfold cy;rw[if_neg (show ¬("set" : Str) = "put" from dk),if_neg (show ¬("set" : Str) = "add" from dk),if_pos rfl];rfl
  rw[e];unfold setM;rw[hk];dsimp only
  split
  ·unfold kE;rw[show (jB (zG S c n k (k.rg.getD r 0)) ⟨"set",c,n,none,some (k.rg.getD r 0),none⟩).ck[c]?=some { k with tn:=k.tn+1,es:=k.es++[⟨k.tn,n,k.rg.getD r 0,S.ac.length⟩] } from mZ hc];dsimp only
   split
   ·exact⟨_,⟨mZ hc,rfl,rfl,rfl⟩⟩
   ·exact⟨{ k with tn:=k.tn+1,es:=lN (k.es++[⟨k.tn,n,k.rg.getD r 0,S.ac.length⟩]) n },⟨mZ (by show c<(S.ck.set c _).length;rw[qa];exact hc),rfl,rfl,rfl⟩⟩
  ·exact⟨_,⟨mZ hc,rfl,rfl,rfl⟩⟩
 | look r n h1 h2=>
  have e:cy S c ("look",[r,n])=gv (jB S ⟨"look",c,n,some (dH S k n).1,none,(dH S k n).2⟩) c r (dH S k n).1:=by
   unfold cy;rw[if_neg (show ¬("look" : Str) = "put" from dk),if_neg (show ¬("look" : Str) = "add" from dk),if_neg (show ¬("look" : Str) = "set" from dk),if_pos rfl];show pj S c r n=_;unfold pj;rw[hk]
  rw[e];have r:=D0 (S:=jB S ⟨"look",c,n,some (dH S k n).1,none,(dH S k n).2⟩) (r:=r) (v:=(dH S k n).1) hk;exact⟨_,⟨r.at',r.pl,r.ct,r.rg⟩⟩
 | swap r n h1 h2=>
  have e:cy S c ("swap",[r,n])=gv (jB (rO S n (k.rg.getD r 0) S.ac.length) ⟨"swap",c,n,some (S.bd.getD n 0),some (k.rg.getD r 0),(S.ov.getD n []).getLast?⟩) c r (S.bd.getD n 0):=by
   unfold cy;rw[if_neg (show ¬("swap" : Str) = "put" from dk),if_neg (show ¬("swap" : Str) = "add" from dk),if_neg (show ¬("swap" : Str) = "set" from dk),if_neg (show ¬("swap" : Str) = "look" from dk),if_pos rfl];show qo S c r n=_;unfold qo;rw[hk]
  rw[e];have r:=D0 (S:=jB (rO S n (k.rg.getD r 0) S.ac.length) ⟨"swap",c,n,some (S.bd.getD n 0),some (k.rg.getD r 0),(S.ov.getD n []).getLast?⟩) (r:=r) (v:=(S.bd.getD n 0)) hk;exact⟨_,⟨r.at',r.pl,r.ct,r.rg⟩⟩
 | clear=>
  have e:cy S c ("clear",[])=S:=by
   unfold cy;rw[if_neg (show ¬("clear" : Str) = "put" from dk),if_neg (show ¬("clear" : Str) = "add" from dk),if_neg (show ¬("clear" : Str) = "set" from dk),if_neg (show ¬("clear" : Str) = "look" from dk),if_neg (show ¬("clear" : Str) = "swap" from dk)]
  rw[e];exact⟨k,⟨hk,rfl,rfl,rfl⟩⟩
 | skip r q h1 h2 h3=>
  have e:cy S c ("skip",[r,q])=S:=by
   unfold cy;rw[if_neg (show ¬("skip" : Str) = "put" from dk),if_neg (show ¬("skip" : Str) = "add" from dk),if_neg (show ¬("skip" : Str) = "set" from dk),if_neg (show ¬("skip" : Str) = "look" from dk),if_neg (show ¬("skip" : Str) = "swap" from dk)]
  rw[e];exact⟨k,⟨hk,rfl,rfl,rfl⟩⟩
end
section
variable{t:aZ}{C CT:Addr}{u:nJ}
def Sy(t:aZ)(C CT PT:Addr):Sp:=λvs H Q _=>∃m A S c k p s sz lab,vs=[.ref m,.int (c:Nat)]/\aU t C CT H m A S/\jk lab m A/\mz S/\zU S/\cJ PT LP LQ H/\S.ck[c]?=some k/\S.ps[c]?=some p/\p[k.pl]?=some s/\di sz s/\
 ∀H',aU t C CT H' m A (vY S c)->aM (bG m A) H H'->cJ PT LP LQ H'->Q .aJ H'
theorem Jr:bg ["self","clerk","step","regs"] ["self","clerk"] (aQ Ko):=bu
theorem Lj{S:Mc}{c r:Nat}{k:Ck}{v:Int}(hk:S.ck[c]?=some k):gv S c r v={ S with ck:=S.ck.set c { k with rg:=k.rg.set r v } }:=by unfold gv;rw[hk]
theorem aeW{f fP fS fL fW PT:Addr}{fd fdP ou wG kU:aV}(F:aW K "do_step" "Machine.do_step" Ko f fd)(cM:gw K C)(O:zH K mg t u)
  (GP:aw P w K mg base az 1 fP fdP ["step","place","regs"] (Qs t)) (kP:PySem.W.keepIn K (.ref fP)=true) (bP:Binds K fdP ["step","place","regs"] []) (mP:mg "place_behind" = some (.ref fP))
  (GS:aw P w K mg base az 5 fS ou ["self","clerk","step"] (TH t C CT PT)) (bS:Binds K ou ["self","clerk","step"] []) (mS:Meth K C "do_set" fS)
  (GL:aw P w K mg base az 2 fL wG ["self","clerk","step"] (Sz t C CT)) (bL:Binds K wG ["self","clerk","step"] []) (mL:Meth K C "do_look" fL)
  (GW:aw P w K mg base az 2 fW kU ["self","clerk","step"] (Sx t C CT)) (bW:Binds K kU ["self","clerk","step"] []) (mW:Meth K C "do_swap" fW):aw P w K mg base az 6 f fd ["self","clerk"] (Sy t C CT PT):=by
 refine ah O.st.cn.top λuT mT rT=>?_;refine F.ok Jr (λvs H Q E h=>?_) λaI A _ s H vs Q E hr h=>?_
 ·obtain⟨m,A,S,c,k,p,s,sz,lab,aa,_⟩:=h;subst aa;rfl
 ·obtain⟨m,A,S,c,k,p,st,sz,lab,aa,bc⟩:=h;subst aa;obtain⟨M,L,W,kX,hL,hk,hp,hs,g,q⟩:=bc;have jE:=hr.mono (show 1<=5 by decide);have sR:=hr.mono (show 2<=5 by decide);refine ah (M.dJ hk) λra jl jD=>?_;have iw:=W.rg k (cQ hk);obtain⟨vs,b,us,h1,h2,h3,h4⟩:=(M.part hp);refine ah (tm h4 hs) λv hv aa=>?_;refine eV aa λz a dz aa hz=>?_;subst aa;have aoU:¬bG m A z:=M.ahT hz
  have hdo:vY S c=qB (cy S c st) c st:=by
   unfold vY;rw[hk,hp];dsimp only;rw[hs]
  refine⟨_,ax (bZ (i:=2) Jr.nd rfl (aR rfl) (aT du (aT du (a6 (pv 0) rfl) (pv 1)) (aT cI (a6 (pv 0) rfl) (pv 1)))) (ax (bZ (i:=3) Jr.nd rfl (aR rfl) (aT cI (a6 (pv 0) rfl) (pv 1))) (ax (cF (iX (cA jK rfl O.st.bl.jU jc (ae (pv 2) (ae (fV (v:=.ref t.lP) rfl O.st.VX rfl) ag)))) (aB (zg (a6 (pv 2) rfl) (zl (pv 3) (a6 (pv 2) rfl) set_list))) (aB (cF (iX (cA jK rfl O.st.bl.jU jc (ae (pv 2) (ae (fV (v:=.ref t.lQ) rfl O.st.VY rfl) ag)))) (aB (zg (a7 fg (a7 kz (aT cI (pv 3) (a6 (pv 2) rfl)) (aT cI (pv 3) (a6 (pv 2) rfl))) (fV rfl mT rT)) (zl (pv 3) (a6 (pv 2) rfl) set_list))) (aB (cF (iX (cA jK rfl O.st.bl.jU jc (ae (pv 2) (ae (fV (v:=.ref t.kI) rfl O.st.VW rfl) ag)))) (aB (dQ (iK (pv 0) cM.cl mS GS hr bS .nil aS (ae (pv 1) (ae (pv 2) ag))))) (aB (cF (iX (cA jK rfl O.st.bl.jU jc (ae (pv 2) (ae (fV (v:=.ref t.lB) rfl O.st.U6 rfl) ag)))) (aB (dQ (iK (pv 0) cM.cl mL GL sR bL .nil aS (ae (pv 1) (ae (pv 2) ag))))) (aB (cF (iX (cA jK rfl O.st.bl.jU jc (ae (pv 2) (ae (fV (v:=.ref t.lA) rfl O.st.U5 rfl) ag)))) (aB (dQ (iK (pv 0) cM.cl mW GW sR bW .nil aS (ae (pv 1) (ae (pv 2) ag)))))
         cU)))))))))
   (eE.WI (t':=λD σ H1=>σ=[some (.ref m),some (.int (c:Nat)),some (.ref z),some (.ref ra)]/\aU t C CT H1 m A (cy S c st)/\aM (bG m A) H H1/\cJ PT LP LQ H1/\∀σ' H',aU t C CT H' m A (vY S c)->aM (bG m A) H H'->cJ PT LP LQ H'->D.nx σ' H') (ax (zg (dF GP jE rfl mP kP bP .nil aS (ae (pv 2) (ae (aT cI (a6 (pv 0) rfl) (pv 1)) (ae (pv 3) ag)))) (zl (a6 (pv 0) rfl) (pv 1) set_list)) (aB (aij (a6 (pv 0) rfl) (pv 1) agU ay ak4 set_list))) ?tl))),?_⟩
  case tl=>
   rintro D σ H1 ⟨rfl,M1,k1,jG,q⟩;refine oE (alp g hk) λk' ef=>?_;refine a9 (id M1.obj) λdx fs hm G=>?_;have da:=k1.k z _ aoU (λps y=>by cases y) hz;refine ah (M1.dJ ef.at') λYs Xd aoQ=>?_;have era:Ys=ra:=by rw[jl]at Xd;exact(iz Xd).symm
   subst era;have hc:c<(cy S c st).ck.length:=(eJ.mp ef.at').1;refine vr rfl (vF rfl hm cM.cl cM.places G.places (vr rfl (rL (av.of M1.pl) (iY (f:=λk:Ck=>V.int (k.pl:Nat)) ef.at') (vr rfl ?_))));refine⟨z,a,dz,st,sz,Ys,k'.rg,k'.pl,rfl,da,g,aoQ,(by rw[ef.rg];exact iw),?_⟩;refine vF rfl hm cM.cl cM.places G.places (vr rfl (qd A.pl _ _ c rfl rfl M1.pl (xv (by rw[aX];exact hc)) ?_));have M2:=al0 M1 L ef.at' (jM st k'.rg k'.pl);have k2:aM (bG m A) H1 (upd H1 A.pl (.lst (((cy S c st).ck.map λk=>V.int (k.pl:Nat)).set c (.int (jM st k'.rg k'.pl:Nat))))):=aM.upd .pl;have l2:KL H1 (upd H1 A.pl (.lst (((cy S c st).ck.map λk=>V.int (k.pl:Nat)).set c (.int (jM st k'.rg k'.pl:Nat))))):=KL.upd M1.pl;generalize upd H1 A.pl (.lst (((cy S c st).ck.map λk=>V.int (k.pl:Nat)).set c (.int (jM st k'.rg k'.pl:Nat))))=H2 at M2 k2 l2 ⊢;refine a9 (id M2.obj) λuF i6 jY G3=>?_;have e2:((cy S c st).ck.set c { k' with pl:=jM st k'.rg k'.pl })[c]?=some { k' with pl:=jM st k'.rg k'.pl }:=mZ hc;refine ar _ rfl (cY m C uF i6 (g9 _ rfl jY cM.cl cM.counts G3.counts (vr rfl (qd A.ct _ c (.int (k'.ct:Nat)) rfl rfl M2.ct (by rw[fw,e2];rfl) ⟨_,_,rfl,rfl,A.ct,_,_,c,rfl,rfl,M2.ct,xv (by rw[aX,qa];exact hc),?_⟩))));have M3:=al2 M2 L e2 (k'.ct+1);refine q _ _ ?_ ((k1.trans k2).trans (aM.upd .ct)) ((l2.trans (KL.upd M2.ct)).lam jG);rw[hdo]
   have e:qB (cy S c st) c st={ (cy S c st)with ck:=((cy S c st).ck.set c { k' with pl:=jM st k'.rg k'.pl }).set c { k' with pl:=jM st k'.rg k'.pl,ct:=k'.ct+1 } }:=by
    unfold qB;rw[ef.at',Iq]
   rw[e];exact M3
  refine a9 (id M.obj) λdx fs hm G=>?_;refine vF rfl hm cM.cl cM.steps G.steps (vr rfl (qd A.st _ _ (.ref b) rfl rfl (aE.of h1) (dG h2) ?_));refine vF rfl hm cM.cl cM.places G.places (vr rfl (rL (av.of M.pl) (iY (f:=λk:Ck=>V.int (k.pl:Nat)) hk) (qd b _ _ (.ref z) rfl rfl (aE.of h3) (dG hv) ?_)));refine ar _ rfl (cY m C dx fs (g9 _ rfl hm cM.cl cM.dJ G.dJ (vr rfl (rL (v:=.ref ra) (av.of M.rg) (iY jl) ?_))));refine ah (U' O g hz) λD ty c6=>?_;refine vr rfl (cY _ (.ref t.lP) _ (.ref t.lP) (gD _ rfl ty rfl c6.an7 (tk (cx (λh=>?_) λn1=>?_))))
  ·cases g with
   | put r n g1 g2=>
    have hz:H z=some (.ins (cZ t "put") dz (eM (.ref a) "put" ([r,n].map λ(n:Nat)=>V.int (n:Int)))):=hz;rw[KC,ai2]at hz;refine vF rfl hz O.st.vy O.st.VT Lu (vr rfl (vF rfl hz O.st.vy O.st.VV (En dk) (qd ra _ _ r rfl rfl jD (xv (by rw[aX,iw];exact g1)) ?_)));refine⟨rfl,?_,(aM.upd (.rs (cQ jl))),((KL.upd jD).lam hL),(λσ' H' h1 h2 h3=>q H' h1 h2 h3)⟩;have e:cy S c ("put",[r,n])=gv S c r (n:Nat):=rfl;rw[e,Lj hk];exact Ex M L hk jl r (n:Nat)
   | add=>exact absurd (show ("add" : Str) = "put" from h) dk
   | set=>exact absurd (show ("set" : Str) = "put" from h) dk
   | look=>exact absurd (show ("look" : Str) = "put" from h) dk
   | swap=>exact absurd (show ("swap" : Str) = "put" from h) dk
   | clear=>exact absurd (show ("clear" : Str) = "put" from h) dk
   | skip=>exact absurd (show ("skip" : Str) = "put" from h) dk
  refine vr rfl (cY _ (.ref t.lQ) _ (.ref t.lQ) (gD _ rfl ty rfl c6.an8 (tk (cx (λh=>?_) λn2=>?_))))
  ·cases g with
   | add r o g1 g2=>
    have hz:H z=some (.ins (cZ t "add") dz (eM (.ref a) "add" ([r,o].map λ(n:Nat)=>V.int (n:Int)))):=hz;rw[KD,ai3]at hz;have GN:k.rg[r]?=some (k.rg[r]'wg):=bb wg;have Cv:k.rg[o]?=some (k.rg[o]'wg):=bb wg;have eg1:k.rg.getD r 0=k.rg[r]'wg:=vi GN;have eg2:k.rg.getD o 0=k.rg[o]'wg:=vi Cv;refine vr rfl (vF rfl hz O.st.tV O.st.Mi (En dk) (rL (av.of jD) (iY GN) ?_));refine vr rfl (vF rfl hz O.st.tV O.st.VU Lu (rL (av.of jD) (iY Cv) ⟨_,⟨_,rfl,rfl,_,_,rfl,rfl,by show (0:Int)<mm;decide +kernel,?_⟩⟩));refine vr rfl (vF rfl hz O.st.tV O.st.Mi (En dk) (qd ra _ _ r rfl rfl jD (xv (by rw[aX,iw];exact g1)) ?_));refine⟨rfl,?_,(aM.upd (.rs (cQ jl))),((KL.upd jD).lam hL),(λσ' H' h1 h2 h3=>q H' h1 h2 h3)⟩
    have e:cy S c ("add",[r,o])=gv S c r ((k.rg[r]'wg+k.rg[o]'wg)%mm):=by
     unfold cy;rw[if_neg (show ¬("add" : Str) = "put" from dk),if_pos rfl,hk];show gv S c r ((k.rg.getD r 0+k.rg.getD o 0)%mm)=_;rw[eg1,eg2]
    rw[e,Lj hk];exact Ex M L hk jl r _
   | put=>exact absurd (show ("put" : Str) = "add" from h) dk
   | set=>exact absurd (show ("set" : Str) = "add" from h) dk
   | look=>exact absurd (show ("look" : Str) = "add" from h) dk
   | swap=>exact absurd (show ("swap" : Str) = "add" from h) dk
   | clear=>exact absurd (show ("clear" : Str) = "add" from h) dk
   | skip=>exact absurd (show ("skip" : Str) = "add" from h) dk
  refine vr rfl (cY _ (.ref t.kI) _ (.ref t.kI) (gD _ rfl ty rfl c6.an6 (tk (cx (λh=>?_) λn3=>?_))))
  ·cases g with
   | set n r g1 g2=>
    have hz:H z=some (.ins (cZ t "set") dz (eM (.ref a) "set" ([n,r].map λ(n:Nat)=>V.int (n:Int)))):=hz;rw[KA]at hz;refine vM rfl hm (G.ms _ dk) (vr rfl (vr rfl ⟨m,⟨A,S,c,k,z,dz,a,n,r,lab,rfl,M,L,W,kX,hL,hk,hz,g1,g2,λH1 M1 k1 jG=>?_⟩⟩));refine⟨rfl,?_,k1,jG,(λσ' H' h1 h2 h3=>q H' h1 h2 h3)⟩
    have e:cy S c ("set",[n,r])=setM S c n r:=by
     unfold cy;rw[if_neg (show ¬("set" : Str) = "put" from dk),if_neg (show ¬("set" : Str) = "add" from dk),if_pos rfl];rfl
    rw[e];exact M1
   | put=>exact absurd (show ("put" : Str) = "set" from h) dk
   | add=>exact absurd (show ("add" : Str) = "set" from h) dk
   | look=>exact absurd (show ("look" : Str) = "set" from h) dk
   | swap=>exact absurd (show ("swap" : Str) = "set" from h) dk
   | clear=>exact absurd (show ("clear" : Str) = "set" from h) dk
   | skip=>exact absurd (show ("skip" : Str) = "set" from h) dk
  refine vr rfl (cY _ (.ref t.lB) _ (.ref t.lB) (gD _ rfl ty rfl c6.amr (tk (cx (λh=>?_) λn4=>?_))))
  ·cases g with
   | look r n g1 g2=>
    have hz:H z=some (.ins (cZ t "look") dz (eM (.ref a) "look" ([r,n].map λ(n:Nat)=>V.int (n:Int)))):=hz;rw[JQ]at hz;refine vM rfl hm (G.ms _ dk) (vr rfl (vr rfl ⟨m,⟨A,S,c,k,z,dz,a,r,n,lab,rfl,M,L,W,hk,hz,g1,g2,λH1 M1 k1 l1=>?_⟩⟩));refine⟨rfl,?_,k1,(l1.lam hL),(λσ' H' h1 h2 h3=>q H' h1 h2 h3)⟩
    have e:cy S c ("look",[r,n])=pj S c r n:=by
     unfold cy;rw[if_neg (show ¬("look" : Str) = "put" from dk),if_neg (show ¬("look" : Str) = "add" from dk),if_neg (show ¬("look" : Str) = "set" from dk),if_pos rfl];rfl
    rw[e];exact M1
   | put=>exact absurd (show ("put" : Str) = "look" from h) dk
   | add=>exact absurd (show ("add" : Str) = "look" from h) dk
   | set=>exact absurd (show ("set" : Str) = "look" from h) dk
   | swap=>exact absurd (show ("swap" : Str) = "look" from h) dk
   | clear=>exact absurd (show ("clear" : Str) = "look" from h) dk
   | skip=>exact absurd (show ("skip" : Str) = "look" from h) dk
  refine vr rfl (cY _ (.ref t.lA) _ (.ref t.lA) (gD _ rfl ty rfl c6.amq (tk (cx (λh=>?_) λn5=>?_))))
  ·cases g with
   | swap r n g1 g2=>
    have hz:H z=some (.ins (cZ t "swap") dz (eM (.ref a) "swap" ([r,n].map λ(n:Nat)=>V.int (n:Int)))):=hz;rw[JO]at hz;refine vM rfl hm (G.ms _ dk) (vr rfl (vr rfl ⟨m,⟨A,S,c,k,z,dz,a,r,n,lab,rfl,M,L,W,kX,hk,hz,g1,g2,λH1 M1 k1 l1=>?_⟩⟩));refine⟨rfl,?_,k1,(l1.lam hL),(λσ' H' h1 h2 h3=>q H' h1 h2 h3)⟩
    have e:cy S c ("swap",[r,n])=qo S c r n:=by
     unfold cy;rw[if_neg (show ¬("swap" : Str) = "put" from dk),if_neg (show ¬("swap" : Str) = "add" from dk),if_neg (show ¬("swap" : Str) = "set" from dk),if_neg (show ¬("swap" : Str) = "look" from dk),if_pos rfl];rfl
    rw[e];exact M1
   | put=>exact absurd (show ("put" : Str) = "swap" from h) dk
   | add=>exact absurd (show ("add" : Str) = "swap" from h) dk
   | set=>exact absurd (show ("set" : Str) = "swap" from h) dk
   | look=>exact absurd (show ("look" : Str) = "swap" from h) dk
   | clear=>exact absurd (show ("clear" : Str) = "swap" from h) dk
   | skip=>exact absurd (show ("skip" : Str) = "swap" from h) dk
  have e:cy S c st=S:=by
   unfold cy;rw[if_neg n1,if_neg n2,if_neg n3,if_neg n4,if_neg n5]
  exact⟨rfl,(by rw[e];exact M),(aM.refl H),hL,(λσ' H' h1 h2 h3=>q H' h1 h2 h3)⟩
end
def jx(S:Mc)(mv:Mv):Mc:=if mv.1 = "do" then vY S (mv.2.getD 0 0).toNat else kE S (mv.2.getD 0 0).toNat (mv.2.getD 1 0).toNat
theorem DA{S:Mc}{mv:Mv}(h:mv∈iL S):(∃c:Nat,mv=(("do" : Str),[(c:Int)])/\c<S.ck.length/\xB S c=true)\/(∃(c:Nat) (k:Ck) (n:Int),mv=(("carry" : Str),[(c:Int),n])/\S.ck[c]?=some k/\n∈ju S.kd k.es):=by
 unfold iL at h;rcases jo.mp h with h | h
 ·left
  unfold t7 at h;refine ah (rB.mp h) λc hc aa=>?_;subst aa;refine oA (rm.mp hc) λh1 h2=>?_;exact c8 c rfl (AF.mp h1) h2
 ·right
  unfold iJ vD at h;refine ah (abg.mp h) λaa hx hm=>?_;obtain⟨k,c⟩:=aa;unfold BA at hm;refine ah (rB.mp hm) λn hn aa=>?_;subst aa;have hc:S.ck[c]?=some k:=aad.mp hx;exact⟨c,k,n,rfl,hc,hn⟩
theorem yZ{S:Mc}{mv:Mv}(h:mv∈iL S):lJ mv.1=true:=by
 rcases DA h with ⟨c,rfl,_,_⟩ | ⟨c,k,n,rfl,_,_⟩
 ·show lJ "do" = true;decide +kernel
 ·show lJ "carry" = true;decide +kernel
theorem SR{S:Mc}{c:Nat}(W:mz S)(hc:c<S.ck.length)(h:xB S c=true):∃k p s sz,S.ck[c]?=some k/\S.ps[c]?=some p/\p[k.pl]?=some s/\di sz s:=by
 have hk:S.ck[c]?=some S.ck[c]:=bb hc;refine gi (W.part hk) λp hp _ _ hg=>?_;rw[Ug hk hp]at h;unfold sg at h;cases e:p[S.ck[c].pl]? with
 | none=>rw[e]at h;cases h
 | some s=>exact⟨_,p,s,_,hk,hp,e,hg s (cQ e)⟩
section
variable{t:aZ}{C CT:Addr}{u:nJ}
def EY(t:aZ)(C CT PT jR:Addr):Sp:=λvs H Q E=>∃m A S p xs lab,vs=[.ref m,.ref p]/\aU t C CT H m A S/\jk lab m A/\mz S/\zU S/\cJ PT LP LQ H/\H p=some (.tup xs)/\(∀x∈xs,∃T,tyName H x=some T)/\xs.length<=1000/\(∀mv,xs=lS mv->lJ mv.1=true)/\
 (∀mv,xs=lS mv->mv∈iL S->∀H',aU t C CT H' m A (jx S mv)->aM (bG m A) H H'->cJ PT LP LQ H'->Q .aJ H')/\
 ((∀mv,xs=lS mv->mv∉iL S)->∀H',aM gL H H'->cJ PT LP LQ H'->E (.ref jR) none H')
theorem amg:bg ["self","move"] ["self","move"] (aQ MP):=bu
theorem ahP{k:Nat}{A:Around}(r:dX k A):A.units+65<cLine:=by have:=r.un;lia
theorem ahD{K:PySem.W.Frag}{H:Hp}{vs:List V}{l:List Mv}(h:Paired (gG H) vs l):lD K H vs (l.map my):=tE (F:=gG H) (λv a q=>by
 obtain⟨p,rfl,q⟩:=q;exact Br q) h
theorem akB{f fF fM fS fC PT jR:Addr}{fd pX wF ou lH:aV}(F:aW K "do" "Machine.do" MP f fd)(cM:gw K C)
  (GF:aw P w K mg base az 2 fF pX ["move"] UT) (kF:PySem.W.keepIn K (.ref fF)=true) (bF:Binds K pX ["move"] []) (mF:mg "has_form_of_move" = some (.ref fF))
  (GM:aw P w K mg base az 4 fM wF ["self"] (Bd t C CT PT)) (bM:Binds K wF ["self"] []) (mM:Meth K C "moves" fM)
  (GS:aw P w K mg base az 6 fS ou ["self","clerk"] (Sy t C CT PT)) (bS:Binds K ou ["self","clerk"] []) (mS:Meth K C "do_step" fS)
  (GC:aw P w K mg base az 4 fC lH ["self","clerk","name"] (Kc t C CT PT)) (bC:Binds K lH ["self","clerk","name"] []) (mC:Meth K C "carry" fC)
  (xc:XC K jR) (mX:mg "NoMove" = some (.ref jR)):aw P w K mg base (dg P w) 7 f fd ["self","move"] (EY t C CT PT jR):=by
 refine F.xM amg (λvs H Q E h=>?_) λaI A outer s H vs Q E hr hL hp h=>?_
 ·refine ni h λm A S p xs lab aa _=>?_;subst aa;rfl
 ·obtain⟨m,A,S,p,xs,lab,aa,M,L,W,bc⟩:=h;subst aa;obtain⟨kX,sq,lW,jV,hl,aoM,q1,q2⟩:=bc;have sR:=hr.mono (show 2<=6 by decide);have nN:=hr.mono (show 4<=6 by decide);refine⟨_,ax (cF (PW.pt (pw_or (nk (iX (dF GF sR rfl mF kF bF .nil aS (ae (pv 1) ag)))) (pw_or1 (cw (aeK (ahP hr)) (pv 1) (jr (pv 0) cM.cl mM GM nN bM .nil aS) rfl)))) (aB (A8 rfl hL xc rfl mX (ae bw ag))) cU) (aB (cF (cw eC (aT du (pv 1) ay) bw (bU _)) (aB (dQ (iK (pv 0) cM.cl mS GS hr bS .nil aS (ae (aT du (pv 1) ay) ag)))) (aB (dQ (iK (pv 0) cM.cl mC GC nN bC .nil aS (ae (aT du (pv 1) ay) (ae (aT du (pv 1) ay) ag))))))),?_⟩;refine vr rfl (⟨p,xs,rfl,lW,jV,hl,(λH1 s1=>(ar _ rfl ?_))⟩);cases hf:Bz xs with
  | false=>exact iM (iM ⟨qc,q2 (λmv e=>by rw[e,aiJ]at hf;cases hf) H1 (aM.of s1) (jd sq s1)⟩)
  | true=>
  refine oE (ai0 hf) λmv aa=>?_;subst aa;have M1:=M.same s1;refine a9 (id M1.obj) λdx fs hm G=>?_;refine fk (vr rfl (vM rfl hm (G.ms _ dk) (jh m A S rfl M1 W (jd sq s1) λH2 l vs k2 kZ hn mV oG=>?_)));have lG:=k2.nu _ _ (s1 _ _ lW);refine⟨l,vs,_,(⟨_,rfl,(av.of mV),(ahD oG),(Br lG),(Dz (aoM mv rfl)),(λd hd=>?_),(ar _ rfl ?_)⟩)⟩
  ·refine ah (rB.mp hd) λa ha aa=>?_;subst aa;exact Dz (yZ ha)
  rw[if_pos rfl,alC];have Zd:aM gL H H2:=(aM.of s1).trans k2
  by_cases iD:mv∈iL S
  ·rw[decide_eq_true iD];refine fk ?_;have q:=q1 mv rfl iD;have M2:=M1.gm k2;refine a9 (id M2.obj) λuF i6 jY G3=>?_;have kk:∀H',aM (bG m A) H2 H'->aM (bG m A) H H':=λH' k=>(Zd.mono λb z=>z.elim).trans k;rcases DA iD with ⟨c,rfl,hc,Nr⟩ | ⟨c,k,n,rfl,hk,gf⟩
   ·obtain⟨k,pt,st,sz,hk,ON,cR,g⟩:=SR W hc Nr;refine kQ (j:=0) rfl lG rfl ⟨rfl,⟨_,rfl,cx (λ_=>?_) λy=>absurd rfl y⟩⟩;refine vM rfl jY (G3.ms _ dk) (kQ (j:=1) rfl lG rfl ?_);exact⟨m,A,S,c,k,pt,st,sz,lab,rfl,M2,L,W,kX,(⟨kZ,hk,ON,cR,g,(λH3 M3 k3 oN=>q H3 M3 (kk _ k3) oN)⟩)⟩
   ·refine ah (M.tX hk) λx hx T=>?_;refine aL (IZ T.wf gf) λi hi aa _=>?_;subst aa;refine kQ (j:=0) rfl lG rfl ⟨rfl,⟨_,rfl,cx (λy=>absurd (show ("carry" : Str) = "do" from EX y) dk) λ_=>?_⟩⟩;refine vM rfl jY (G3.ms _ dk) (kQ (j:=1) rfl lG rfl ?_);refine kQ (j:=2) rfl lG rfl ?_;exact⟨m,A,S,c,k,i,lab,rfl,M2,L,kZ,hk,gf,hi,(⟨W.bd,W.ov,kX,(λH3 M3 k3 oN=>q H3 M3 (kk _ k3) oN)⟩)⟩
  ·rw[decide_eq_false iD];exact iM ⟨qc,q2 (λz0 e z=>iD (by rw[xg e];exact z)) H2 Zd kZ⟩
end
structure gK(n:Nat)(S:Mc):Prop where
 wf:mz S
 ac:S.ac.length<=n
 ov:∀o∈S.ov,o.length<=n
theorem gK.NM{n:Nat}{S:Mc}(W:gK n S)(h:n<=16000):zU S:=λo ho=>cu (W.ov o ho) h
structure sF(n:Nat)(S S':Mc)(c:Nat)(k k':Ck):Prop where
 ck:S'.ck=S.ck.set c k'
 ps:S'.ps=S.ps
 kd:S'.kd=S.kd
 rg:k'.rg.length=k.rg.length
 bd:S'.bd.length=S.bd.length
 Fx:S'.ov.length=S.ov.length
 FD:S.ac.length<=S'.ac.length
 FC:S'.ac.length<=S.ac.length+1
 es:k'.es.length<=S'.ac.length
 ov:∀o∈S'.ov,o.length<=n+1
theorem aim{S:Mc}{n:Nat}(W:gK n S)(i:Nat):(S.ov.getD i []).length<=n:=by
 cases h:S.ov[i]? with
 | none=>rw[pY,h];exact bX _
 | some o=>rw[pY,h];exact W.ov o (cQ h)
theorem U0{S:Mc}{n i:Nat}{d:Int}(W:gK n S):∀o∈S.ov.set i (S.ov.getD i []++[d]),o.length<=n+1:=by
 intro o ho;rcases PQ ho with h | h
 ·exact wJ (W.ov o h)
 ·rw[h,cX];exact Dg (aim W i)
theorem Me{S:Mc}{n:Nat}(W:gK n S):∀o∈S.ov,o.length<=n+1:=λo ho=>wJ (W.ov o ho)
theorem ahA(es:List Ent)(n:Int):(lN es n).length<=es.length:=List.length_eraseP_le
theorem aeA{α:Type}{l:List α}{c:Nat}{k:α}(h:l[c]?=some k):l.set c k=l:=by
 refine oE (eJ.mp h) λhc e=>?_;rw[<-e];exact List.set_getElem_self hc
section
variable{S:Mc}{n c:Nat}{k:Ck}
theorem Td(W:gK n S)(hk:S.ck[c]?=some k):sF n S S c k k:=⟨(aeA hk).symm,rfl,rfl,rfl,rfl,rfl,aF _,jq _,W.wf.es k (cQ hk),Me W⟩
theorem D8{S':Mc}{k':Ck}(h:sF n S S' c k k')(hc:c<S.ck.length)(r:Nat)(v:Int):sF n S (gv S' c r v) c k { k' with rg:=k'.rg.set r v }:=by
 have e:S'.ck[c]?=some k':=by rw[h.ck];exact mZ hc
 rw[Lj e];exact⟨by show S'.ck.set c _=_;rw[h.ck,Iq],h.ps,h.kd,by show (k'.rg.set r v).length=_;rw[qa];exact h.rg,h.bd,h.Fx,h.FD,h.FC,h.es,h.ov⟩
theorem RW{S':Mc}{k':Ck}(W:gK n S)(h:sF n S S' c k k')(kX:S'.ov=S.ov)(hc:c<S.ck.length)(i:Nat):∃Aa,sF n S (kE S' c i) c k Aa/\Aa.pl=k'.pl/\Aa.ct=k'.ct:=by
 have e:S'.ck[c]?=some k':=by rw[h.ck];exact mZ hc
 unfold kE;rw[e];dsimp only;cases (bV k'.es i).head? with
 | none=>exact⟨k',h,rfl,rfl⟩
 | some x=>
  refine c8 ({ k' with es:=lN k'.es i }) ⟨by show S'.ck.set c _=_;rw[h.ck,Iq],h.ps,h.kd,h.rg,?_,?_,h.FD,h.FC,cu (ahA _ _) h.es,?_⟩ rfl rfl
  ·show (S'.bd.set i x.num).length=_;rw[qa];exact h.bd
  ·show (S'.ov.set i (S'.ov.getD i []++[x.d])).length=_;rw[qa];exact h.Fx
  ·show ∀o∈S'.ov.set i (S'.ov.getD i []++[x.d]),o.length<=n+1;rw[kX];exact U0 W
theorem ajQ{sz:Nat}{s:Tl}(W:gK n S)(g:di sz s)(hk:S.ck[c]?=some k):∃k',sF n S (cy S c s) c k k'/\k'.pl=k.pl/\k'.ct=k.ct:=by
 have hc:c<S.ck.length:=(eJ.mp hk).1;have f0:=Td W hk;cases g with
 | put r m h1 h2=>exact⟨_,D8 f0 hc _ _,rfl,rfl⟩
 | add r o h1 h2=>
  have e:cy S c ("add",[r,o])=gv S c r ((k.rg.getD r 0+k.rg.getD o 0)%mm):=by
   unfold cy;rw[if_neg (show ¬("add" : Str) = "put" from dk),if_pos rfl,hk];rfl
  rw[e];exact c8 _ (D8 f0 hc _ _) rfl rfl
 | set i r h1 h2=>
  have e:cy S c ("set",[i,r])=setM S c i r:=by
   unfold cy;rw[if_neg (show ¬("set" : Str) = "put" from dk),if_neg (show ¬("set" : Str) = "add" from dk),if_pos rfl];rfl
  rw[e];unfold setM;rw[hk];dsimp only
  have f1:sF n S (jB (zG S c i k (k.rg.getD r 0)) ⟨"set",c,i,none,some (k.rg.getD r 0),none⟩) c k { k with tn:=k.tn+1,es:=k.es++[⟨k.tn,i,k.rg.getD r 0,S.ac.length⟩] }:=by
   refine⟨rfl,rfl,rfl,rfl,rfl,rfl,?_,?_,?_,λo ho=>Me W o ho⟩
   ·show S.ac.length<=(S.ac++[_]).length;rw[cX];exact HI _ _
   ·show (S.ac++[_]).length<=_;rw[cX];exact aF _
   ·show (k.es++[_]).length<=(S.ac++[_]).length;rw[cX,cX];exact Dg (W.wf.es k (cQ hk))
  split
  ·refine aL (RW W f1 rfl hc i) λAa f2 e1 e2=>?_;exact c8 Aa f2 e1 e2
  ·exact c8 _ f1 rfl rfl
 | look r i h1 h2=>
  have e:cy S c ("look",[r,i])=gv (jB S ⟨"look",c,i,some (dH S k i).1,none,(dH S k i).2⟩) c r (dH S k i).1:=by
   unfold cy;rw[if_neg (show ¬("look" : Str) = "put" from dk),if_neg (show ¬("look" : Str) = "add" from dk),if_neg (show ¬("look" : Str) = "set" from dk),if_pos rfl];show pj S c r i=_;unfold pj;rw[hk]
  rw[e]
  have f1:sF n S (jB S ⟨"look",c,i,some (dH S k i).1,none,(dH S k i).2⟩) c k k:=by
   refine⟨f0.ck,rfl,rfl,rfl,rfl,rfl,?_,?_,?_,λo ho=>Me W o ho⟩
   ·show S.ac.length<=(S.ac++[_]).length;rw[cX];exact HI _ _
   ·show (S.ac++[_]).length<=_;rw[cX];exact aF _
   ·show k.es.length<=(S.ac++[_]).length;rw[cX];exact wJ (W.wf.es k (cQ hk))
  exact c8 _ (D8 f1 hc _ _) rfl rfl
 | swap r i h1 h2=>
  have e:cy S c ("swap",[r,i])=gv (jB (rO S i (k.rg.getD r 0) S.ac.length) ⟨"swap",c,i,some (S.bd.getD i 0),some (k.rg.getD r 0),(S.ov.getD i []).getLast?⟩) c r (S.bd.getD i 0):=by
   unfold cy;rw[if_neg (show ¬("swap" : Str) = "put" from dk),if_neg (show ¬("swap" : Str) = "add" from dk),if_neg (show ¬("swap" : Str) = "set" from dk),if_neg (show ¬("swap" : Str) = "look" from dk),if_pos rfl];show qo S c r i=_;unfold qo;rw[hk]
  rw[e]
  have f1:sF n S (jB (rO S i (k.rg.getD r 0) S.ac.length) ⟨"swap",c,i,some (S.bd.getD i 0),some (k.rg.getD r 0),(S.ov.getD i []).getLast?⟩) c k k:=by
   refine⟨f0.ck,rfl,rfl,rfl,?_,?_,?_,?_,?_,?_⟩
   ·show (S.bd.set i _).length=_;rw[qa]
   ·show (S.ov.set i _).length=_;rw[qa]
   ·show S.ac.length<=(S.ac++[_]).length;rw[cX];exact HI _ _
   ·show (S.ac++[_]).length<=_;rw[cX];exact aF _
   ·show k.es.length<=(S.ac++[_]).length;rw[cX];exact wJ (W.wf.es k (cQ hk))
   ·exact U0 W
  exact c8 _ (D8 f1 hc _ _) rfl rfl
 | clear=>
  have e:cy S c ("clear",[])=S:=by
   unfold cy;rw[if_neg (show ¬("clear" : Str) = "put" from dk),if_neg (show ¬("clear" : Str) = "add" from dk),if_neg (show ¬("clear" : Str) = "set" from dk),if_neg (show ¬("clear" : Str) = "look" from dk),if_neg (show ¬("clear" : Str) = "swap" from dk)]
  rw[e];exact c8 k f0 rfl rfl
 | skip r q h1 h2 h3=>
  have e:cy S c ("skip",[r,q])=S:=by
   unfold cy;rw[if_neg (show ¬("skip" : Str) = "put" from dk),if_neg (show ¬("skip" : Str) = "add" from dk),if_neg (show ¬("skip" : Str) = "set" from dk),if_neg (show ¬("skip" : Str) = "look" from dk),if_neg (show ¬("skip" : Str) = "swap" from dk)]
  rw[e];exact c8 k f0 rfl rfl
theorem Vd{S':Mc}{k':Ck}(W:gK n S)(hn:n<15000)(h:sF n S S' c k k')(hk:S.ck[c]?=some k)(dO:∀p,S.ps[c]?=some p->k'.pl<=p.length):gK (n+1) S':=by
 have j':=W.ac;have h2:=h.FC;have h1:=h.FD;have hc:c<S.ck.length:=(eJ.mp hk).1;refine⟨⟨by rw[h.ps];exact W.wf.good,by rw[h.ck,qa,h.ps];exact W.wf.len,by rw[h.bd];exact W.wf.bd,by rw[h.Fx];exact W.wf.ov,?_,?_,li,?_⟩,li,h.ov⟩
 ·intro x hx;rw[h.ck]at hx;rcases PQ hx with y | y
  ·exact W.wf.rg x y
  ·rw[y,h.rg];exact W.wf.rg k (cQ hk)
 ·intro i x p hx hp;rw[h.ps]at hp;rw[h.ck]at hx
  by_cases e:c=i
  ·subst e;rw[mZ hc]at hx;cases hx;exact dO p hp
  ·rw[Ax e]at hx;exact W.wf.pl i x p hx hp
 ·intro x hx;rw[h.ck]at hx;rcases PQ hx with y | y
  ·exact cu (W.wf.es x y) h1
  ·rw[y];exact h.es
theorem afH{s:Tl}{rg:List Int}{pl:Nat}{p:Pt}(g:di p.length s)(h:pl<p.length):jM s rg pl<=p.length:=by
 unfold jM
 split
 ·rename_i hs
  cases g with
  | skip r q h1 h2 h3=>exact h2
  | put=>exact absurd (show ("put" : Str) = "skip" from hs.1) dk
  | add=>exact absurd (show ("add" : Str) = "skip" from hs.1) dk
  | set=>exact absurd (show ("set" : Str) = "skip" from hs.1) dk
  | look=>exact absurd (show ("look" : Str) = "skip" from hs.1) dk
  | swap=>exact absurd (show ("swap" : Str) = "skip" from hs.1) dk
  | clear=>exact absurd (show ("clear" : Str) = "skip" from hs.1) dk
 ·exact h
theorem Kt{mv:Mv}(W:gK n S)(hn:n<15000)(h:mv∈iL S):gK (n+1) (jx S mv):=by
 rcases DA h with ⟨c,rfl,hc,Nr⟩ | ⟨c,k,i,rfl,hk,gf⟩
 ·obtain⟨k,p,s,_,hk,hp,hs,_⟩:=SR W.wf hc Nr;refine gi (W.wf.part hk) λp' Gx _ _ hg=>?_;have ep:p'=p:=by rw[hp]at Gx;exact(iz Gx).symm
  subst ep;have g:=hg s (cQ hs);refine aL (ajQ W g hk) λk' f e1 e2=>?_
  have e:jx S ("do",[(c:Int)])=qB (cy S c s) c s:=by
   unfold jx;rw[if_pos rfl];show vY S ((c:Int)).toNat=_;rw[lZ];unfold vY;rw[hk,hp];dsimp only;rw[hs]
  rw[e];have ec:(cy S c s).ck[c]?=some k':=by rw[f.ck];exact mZ hc
  have dO:k.pl<p'.length:=(eJ.mp hs).1;refine Vd (k':={ k' with pl:=jM s k'.rg k'.pl,ct:=k'.ct+1 }) W hn ?_ hk λq hq=>?_
  ·unfold qB;rw[ec];exact⟨by show (cy S c s).ck.set c _=_;rw[f.ck,Iq],f.ps,f.kd,f.rg,f.bd,f.Fx,f.FD,f.FC,f.es,f.ov⟩
  ·rw[hp]at hq;cases hq;exact afH g (by rw[e1];exact dO)
 ·have hc:c<S.ck.length:=(eJ.mp hk).1
  have e:jx S ("carry",[(c:Int),i])=kE S c i.toNat:=by
   unfold jx;rw[if_neg (show ¬("carry" : Str) = "do" from dk)];show kE S ((c:Int)).toNat _=_;rw[lZ];rfl
  rw[e];refine aL (RW W (Td W hk) rfl hc i.toNat) λAa f e1 e2=>?_;exact Vd W hn f hk λp hp=>by rw[e1];exact W.wf.pl c k p hk hp
end
theorem akG{kd:Str}{ps:List Pt}(g:qu ps):gK 0 (tZ kd ps):=by
 refine⟨⟨g,by show (ps.map _).length=_;rw[aX];rfl,by show (dw 12 (0:Int)).length=12;rfl,by show (dw 12 ([]:List Int)).length=12;rfl,?_,?_,bX _,?_⟩,aF _,?_⟩
 ·intro k hk;refine ah (rB.mp hk) λ_ _ aa=>?_;subst aa;rfl
 ·intro c k p hk hp;have:k∈(ps.map λ_=>k0):=cQ hk;refine ah (rB.mp this) λ_ _ aa=>?_;subst aa;exact bX _
 ·intro k hk;refine ah (rB.mp hk) λ_ _ aa=>?_;subst aa;exact aF _
 ·intro o ho;rw[aat ho];exact aF _
def pairD(e:Ent):PyData:=.tuple [.int e.n,.int e.num]
def oD:Option Int->PyData
 | none=>.none
 | some i=>.int i
def ua(a:Act):PyData:=.tuple [.str a.k,.int (a.c:Nat),.int (a.n:Nat),oD a.got,oD a.gave,oD a.seen]
def xH(S:Mc):Prop:=∀a∈S.ac,lJ a.k=true
theorem Lo{K:PySem.W.Frag}{H:Hp}(o:Option Int):eY K H (oV o) (oD o):=by
 cases o with
 | none=>exact .aJ
 | some i=>exact .int i
theorem aj0{K:PySem.W.Frag}{H:Hp}{v:V}{a:Act}(h:vC H v a):eY K H v (ua a):=by
 obtain⟨p,rfl,h⟩:=h;exact .tup (aE.of h) (.cons (.str _) (.cons (.int _) (.cons (.int _) (.cons (Lo _) (.cons (Lo _) (.cons (Lo _) .nil))))))
theorem tO(o:Option Int):(oD o).canLay0=true/\(oD o).depth<=1:=by cases o <;> exact⟨rfl,by simp[oD,iT]⟩
theorem adB{l:List Act}(h:∀a∈l,lJ a.k=true):shaped (.list (l.map ua))=true:=by
 refine Q3 (λa ha=>?_) λa ha=>?_
 ·unfold ua;simp only[lp,kj];rw[h a ha,(tO a.got).1,(tO a.gave).1,(tO a.seen).1];rfl
 ·unfold ua;have h1:=(tO a.got).2;have h2:=(tO a.gave).2;have h3:=(tO a.seen).2;simp only[iT,lI];lia
theorem acM(l:List (List Int)):shaped (.list (l.map λo=>Iy (o.map jf)))=true:=by
 refine Q3 (λa _=>?_) λa _=>?_
 ·simp only[lp];exact oX λa _=>rfl
 ·have h:=lL (f:=jf) (k:=1) (l:=a) (λa _=>by simp[iT]);simp only[iT];exact wb
theorem JH{K:PySem.W.Frag}{H:Hp}{a:Addr}{l:List Int}(h:H a=some (.lst (l.map V.int))):eY K H (.ref a) (.list (l.map jf)):=.lst (av.of h) (IJ l)
theorem agf{K:PySem.W.Frag}{H:Hp}{v:V}{e:Ent}(h:vq H v e):eY K H v (pairD e):=by
 obtain⟨p,rfl,h⟩:=h;exact .tup (aE.of h) (.cons (.int _) (.cons (.int _) .nil))
theorem akH:(["_law_machine","_law_name"]:List Str).Nodup:=dk
def vZ(k:Ck):PyData:=.tuple [.int (k.pl:Nat),.int (k.ct:Nat),.list (k.rg.map jf),.list (k.es.map pairD)]
def BM(S:Mc):PyData:=.tuple [.list (S.bd.map jf),.list (S.ac.map ua),.list (S.ov.map λo=>Iy (o.map jf)),.list ((iL S).map my)]
def Bh(S:Mc):PyData:=.list (S.ck.map vZ++[BM S])
def Kp(H0 H H':Hp):Prop:=(∀b xs,H0 b=none->H b=some (.lst xs)->H' b=some (.lst xs))/\∀b xs,H b=some (.tup xs)->H' b=some (.tup xs)
def StD(K:PySem.W.Frag)(H0 H:Hp)(v:V)(S:Mc):Prop:=∀H',Kp H0 H H'->eY K H' v (Bh S)
def TupAt(H0 H:Hp)(l:Addr)(v:V)(k:Ck):Prop:=∃p r w us,v=.ref p/\H p=some (.tup [.int (k.pl:Nat),.int (k.ct:Nat),.ref r,.ref w])/\H r=some (.lst (k.rg.map V.int))/\H w=some (.lst us)/\Paired (vq H) us k.es/\H0 r=none/\H0 w=none/\r≠l/\w≠l
theorem vq.Mm{H H':Hp}{v:V}{e:Ent}(k:∀b xs,H b=some (.tup xs)->H' b=some (.tup xs))(h:vq H v e):vq H' v e:=by
 refine ah h λp e h=>?_;exact ar p e (k _ _ h)
theorem TupAt.keep{H0 H H':Hp}{l:Addr}{v:V}{k:Ck}(h:TupAt H0 H l v k)(k1:∀b xs,b≠l->H0 b=none->H b=some (.lst xs)->H' b=some (.lst xs))(k2:∀b xs,H b=some (.tup xs)->H' b=some (.tup xs)):TupAt H0 H' l v k:=by
 obtain⟨p,r,w,us,e,h1,h2,h3,h4,n1,n2,n3,n4⟩:=h;exact⟨p,r,w,us,e,(k2 _ _ h1),(k1 _ _ n3 n1 h2),(k1 _ _ n4 n2 h3),(Paired.b8 h4 λ_ _ q=>q.Mm k2),n1,n2,n3,n4⟩
theorem TupAt.dat{K:PySem.W.Frag}{H0 H H':Hp}{l:Addr}{v:V}{k:Ck}(h:TupAt H0 H l v k)(kp:Kp H0 H H'):eY K H' v (vZ k):=by
 refine ph h λp r w us aa bc=>?_;clear h;subst aa;obtain⟨h1,h2,h3,h4,n1,n2,n3,n4⟩:=bc;exact .tup (aE.of (kp.2 _ _ h1)) (.cons (.int _) (.cons (.int _) (.cons (JH (kp.1 _ _ n1 h2)) (.cons (.lst (av.of (kp.1 _ _ n2 h3)) (tE (λv a q=>agf q) (Paired.b8 h4 λ_ _ q=>q.Mm kp.2))) .nil))))
theorem Sd{K:PySem.W.Frag}{H:Hp}:∀{xs:List V} {ds:List PyData} {y:V} {e:PyData},lD K H xs ds->eY K H y e->lD K H (xs++[y]) (ds++[e])
 | _,_,_,_,.nil,h=>.cons h .nil
 | _,_,_,_,.cons a t,h=>.cons a (Sd t h)
section
variable{t:aZ}{C CT:Addr}
structure Tells(P:Program)(w:World)(K:PySem.W.Frag)(mg:Str->Option Value)(base:Heap)(t:aZ)(C CT:Addr)(f1 f2 f3 f4 f5 f6 f7:Addr)(d1 d2 d3 d4 d5 d6 d7:aV):Prop where
 cM:gw K C
 g1:aw P w K mg base az 1 f1 d1 ["self","clerk"] (DX t C CT Ck.pl)
 b1:Binds K d1 ["self","clerk"] []
 m1:Meth K C "where" f1
 g2:aw P w K mg base az 1 f2 d2 ["self","clerk"] (DX t C CT Ck.ct)
 b2:Binds K d2 ["self","clerk"] []
 m2:Meth K C "steps_done" f2
 g3:aw P w K mg base az 1 f3 d3 ["self","clerk"] (UP t C CT)
 b3:Binds K d3 ["self","clerk"] []
 m3:Meth K C "registers" f3
 g4:aw P w K mg base az 2 f4 d4 ["self","clerk"] (RB t C CT)
 b4:Binds K d4 ["self","clerk"] []
 m4:Meth K C "waiting" f4
 g5:aw P w K mg base az 1 f5 d5 ["self"] (TM t C CT)
 b5:Binds K d5 ["self"] []
 m5:Meth K C "board" f5
 g6:aw P w K mg base az 1 f6 d6 ["self"] (TJ t C CT)
 b6:Binds K d6 ["self"] []
 m6:Meth K C "deeds" f6
 g7:aw P w K mg base az 1 f7 d7 ["self","name"] (UR t C CT)
 b7:Binds K d7 ["self","name"] []
 m7:Meth K C "over" f7
def Jn(K:PySem.W.Frag)(t:aZ)(C CT PT:Addr):Sp:=λvs H Q _=>∃m A S n,vs=[.ref m]/\aU t C CT H m A S/\gK n S/\S.ac.length<64/\cJ PT LP LQ H/\∀H' v,aM gL H H'->cJ PT LP LQ H'->StD K H H' v S->Q v H'
theorem Jp:bg ["_law_machine","_law_told","_law_k"] zLa (aQ Ki):=bu
theorem aeS{f f1 f2 f3 f4 f5 f6 f7 f8 PT:Addr}{fd d1 d2 d3 d4 d5 d6 d7 d8:aV}(F:aW K "_law_stand" "_law_stand" Ki f fd)(gd:mg "len" = none)(iw:mg "range" = none)(T:Tells P w K mg base t C CT f1 f2 f3 f4 f5 f6 f7 d1 d2 d3 d4 d5 d6 d7)
  (GM:aw P w K mg base az 4 f8 d8 ["self"] (Bd t C CT PT)) (bM:Binds K d8 ["self"] []) (mM:Meth K C "moves" f8):aw P w K mg base az 5 f fd zLa (Jn K t C CT PT):=by
 refine F.ok Jp (λvs H Q E h=>?_) λaI A _ s H vs Q E hr h=>?_
 ·refine ph h λm A S n aa _=>?_;clear h;subst aa;rfl
 ·obtain⟨m,A,S,n,aa,M,W,hn,hL,q⟩:=h;subst aa;have jE:=hr.mono (show 1<=4 by decide);have sR:=hr.mono (show 2<=4 by decide)
  refine⟨_,ax (bZ (i:=1) Jp.nd rfl (aR rfl) (dW ag)) (ax (rQ uP rfl (wX rfl iw (ae (cA iG rfl gd PySem.boot_len (ae (a6 (pv 0) rfl) ag)) ag)) (de (i:=2) Jp.nd rfl (aR rfl)) (aB (dQ (mh PySem.F.plainAttrs_list PySem.F.slot_list_append PySem.F.type_list_append oZ (pv 1) (ae (eR (ae (iK (pv 0) T.cM.cl T.m1 T.g1 jE T.b1 .nil aS (ae (pv 2) ag)) (ae (iK (pv 0) T.cM.cl T.m2 T.g2 jE T.b2 .nil aS (ae (pv 2) ag)) (ae (iK (pv 0) T.cM.cl T.m3 T.g3 jE T.b3 .nil aS (ae (pv 2) ag)) (ae (iK (pv 0) T.cM.cl T.m4 T.g4 sR T.b4 .nil aS (ae (pv 2) ag)) ag))))) ag))))) (ax (dQ (mh PySem.F.plainAttrs_list PySem.F.slot_list_append PySem.F.type_list_append oZ (pv 1) (ae (eR (ae (jr (pv 0) T.cM.cl T.m5 T.g5 jE T.b5 .nil aS) (ae (jr (pv 0) T.cM.cl T.m6 T.g6 jE T.b6 .nil aS) (ae (ji (N:=["_law_machine","_law_name"]) (idx:=[0]) rfl (dN.of (by kernel_rfl)) (je (aF _)) (wX rfl iw (ae ay ag)) (λ_ _ _ _=>de (i:=1) akH rfl (aR rfl) (.inr rfl)) (λ_ _ _ _=>jt) λ_ _ _ _=>iK (pv 0) T.cM.cl T.m7 T.g7 jE T.b7 .nil aS (ae (pv 1) ag)) (ae (jr (pv 0) T.cM.cl mM GM hr bM .nil aS) ag))))) ag)))
   (aB (a8 (pv 1))))),?_⟩
  have fu:=lu;refine a9 (id M.obj) λdx fs hm G=>?_;refine cG (id M.pg) λpg bh epg jX Gs=>?_;cases epg;have dO:bh.length=S.ck.length:=by rw[Paired.length Gs];exact W.wf.len.symm
  have h4:=W.wf.four;refine⟨qc,λl nl=>?_⟩;have s0:af H (upd H l (.lst [])):=aH (af.refl _) nl;have GJ:upd H l (.lst []) l=some (.lst []):=au;generalize upd H l (.lst [])=H0 at s0 GJ ⊢;refine vF rfl (s0 _ _ hm) T.cM.cl T.cM.program G.program ⟨A.pg,⟨_,rfl,.inr (aE.of (s0 _ _ jX)),_,rfl,li,li,?_⟩⟩;rw[show ((bh.length:Int)).toNat=bh.length by lia];refine AW (n:=bh.length) (λi σ H'=>i<=bh.length/\(∃c,σ=[some (.ref m),some (.ref l),c])/\af H H'/\∃us,H' l=some (.lst us)/\Paired (TupAt H H' l) us (S.ck.take i)) ⟨bX _,⟨none,rfl⟩,s0,[],GJ,.nil⟩ ?_ ?_
  ·rintro i σ H1 hi ⟨_,⟨c0,rfl⟩,s1,us,i9,qO⟩;have hi':i<S.ck.length:=wf;have hk:S.ck[i]?=some (S.ck[i]'hi'):=bb hi';generalize S.ck[i]'hi'=k at hk;have M1:=M.same s1;have iy:=s1 _ _ hm;have hel:=W.wf.es k (cQ hk);have j':=W.ac;have e0:(0+(i:Int))=(i:Int):=Ir _;have pQ:=Paired.length qO;rw[ff]at pQ;refine vr rfl ⟨.inl ⟨rfl,_,av.of i9⟩,?_⟩;refine vM rfl iy (G.ms _ dk) (vr rfl (⟨m,A,S,i,k,(by rw[e0];rfl),M1,hk,?_⟩));refine vM rfl iy (G.ms _ dk) (vr rfl (⟨m,A,S,i,k,(by rw[e0];rfl),M1,hk,?_⟩));refine vM rfl iy (G.ms _ dk) (vr rfl (⟨m,A,S,i,k,(by rw[e0];rfl),M1,hk,(λr nr=>?_)⟩));have s2:af H1 (upd H1 r (.lst (k.rg.map V.int))):=aH (af.refl _) nr;have Xe:upd H1 r (.lst (k.rg.map V.int)) r=some (.lst (k.rg.map V.int)):=au;generalize upd H1 r (.lst (k.rg.map V.int))=H2 at s2 Xe ⊢;refine vM rfl (s2 _ _ iy) (G.ms _ dk) (vr rfl (⟨m,A,S,i,k,(by rw[e0];rfl),(M1.same s2),hk,wi,(λH3 w3 ws s3 nw hw pP=>?_)⟩));refine⟨by show 4<=aP;decide,λp np=>?_⟩;have s4:af H3 (upd H3 p (.tup [.int (k.pl:Nat),.int (k.ct:Nat),.ref r,.ref w3])):=aH (af.refl _) np;have Gv:upd H3 p (.tup [.int (k.pl:Nat),.int (k.ct:Nat),.ref r,.ref w3]) p=some (.tup [.int (k.pl:Nat),.int (k.ct:Nat),.ref r,.ref w3]):=au;generalize upd H3 p (.tup [.int (k.pl:Nat),.int (k.ct:Nat),.ref r,.ref w3])=H4 at s4 Gv ⊢;have we:=s2.trans (s3.trans s4);have wz:=we _ _ i9;have YN:r≠l:=λz=>by rw[z,i9]at nr;cases nr
   have YM:w3≠l:=λz=>by rw[z,s2 _ _ i9]at nw;cases nw
   refine jh l us (.ref p) rfl rfl wz (by rw[pQ,fu];lia) ?_
   have k2:∀b xs,H4 b=some (.tup xs)->upd H4 l (.lst (us++[.ref p])) b=some (.tup xs):=λb xs e=>by
    rw[aj (λz=>by rw[z,wz]at e;cases e)];exact e
   have k1:∀b xs,b≠l->H4 b=some (.lst xs)->upd H4 l (.lst (us++[.ref p])) b=some (.lst xs):=λb xs z e=>by
    rw[aj z];exact e
   refine⟨hi,⟨_,rfl⟩,(Dw (s1.trans we) nl),(ar (us++[.ref p]) au ?_)⟩;rw[lj,hk];refine nR (Paired.b8 qO λ_ _ z=>z.keep (λb xs n _ e=>k1 b xs n (we _ _ e)) λb xs e=>k2 b xs (we _ _ e)) (⟨p,r,w3,ws,rfl,(k2 _ _ Gv),(k1 _ _ YN (s4 _ _ (s3 _ _ Xe))),(k1 _ _ YM (s4 _ _ hw)),(Paired.b8 pP λ_ _ z=>z.Mm λb xs e=>k2 b xs (s4 _ _ e)),(s1.free nr),(s1.free (s2.free nw)),YN,YM⟩)
  ·rintro σ H1 ⟨_,⟨c0,rfl⟩,s1,us,i9,qO⟩;rw[iE li]at qO;have M1:=M.same s1;have iy:=s1 _ _ hm;have pQ:=Paired.length qO;refine c8 _ rfl (.inl ⟨rfl,_,av.of i9⟩) ?_;refine vM rfl iy (G.ms _ dk) (⟨m,A,S,rfl,M1,(λlb F'=>?_)⟩);have s2:af H1 (upd H1 lb (.lst (S.bd.map V.int))):=aH (af.refl _) F';have ZI:upd H1 lb (.lst (S.bd.map V.int)) lb=some (.lst (S.bd.map V.int)):=au;generalize upd H1 lb (.lst (S.bd.map V.int))=H2 at s2 ZI ⊢;refine vM rfl (s2 _ _ iy) (G.ms _ dk) (⟨m,A,S,rfl,(M1.same s2),(λld wd F9 hwd=>?_)⟩);have s3:af H2 (upd H2 ld (.lst wd)):=aH (af.refl _) F9;have ZH:upd H2 ld (.lst wd) ld=some (.lst wd):=au;generalize upd H2 ld (.lst wd)=H3 at s3 ZH ⊢;have sI:=s2.trans s3;have uq:=s1.trans sI;have nbl:lb≠l:=λz=>by rw[z,i9]at F';cases F'
   have ndl:ld≠l:=λz=>by rw[z,s2 _ _ i9]at F9;cases F9
   refine⟨12,rfl,qc,qc,?_⟩;rw[show (12:Int).toNat=12 from rfl];have hol:=W.wf.ov;refine iW (n:=12) (λj zs H'=>j<=12/\af H3 H'/\Paired (λv (o:List Int)=>∃a,v=V.ref a/\H' a=some (.lst (o.map V.int))/\H a=none/\a≠l) zs (S.ov.take j)) ?_ ?_ ?_ ?_ ?_ ?_ ?_
   ·exact cO (c9 li)
   ·exact iq (bX _) (af.refl _) .nil
   ·rintro j zs H' ⟨_,_,e⟩;rw[Paired.length e,ff];exact xl
   ·rintro j zs H' hj _;exact hj
   ·rintro zs H' _;exact aF _
   ·rintro j zs H' hj ⟨_,s4,e⟩ z fb ⟨eH,da⟩;subst eH;subst da;have Zz:S.ov[j]?=some (S.ov[j]'wg):=bb wg;dsimp only[jS,ij];rw[if_pos rfl];refine vM rfl (s4 _ _ (uq _ _ hm)) (G.ms _ dk) (vr rfl (⟨m,A,S,j,_,(by rw[Ir];rfl),(M.same (uq.trans s4)),Zz,(λl5 Cb=>⟨hj,s4.trans (aH (af.refl _) Cb),?_⟩)⟩));rw[lj,Zz];exact nR (Paired.b8 e λ_ _ ⟨a,h1,h2,h3,h4⟩=>⟨a,h1,aH (af.refl _) Cb _ _ h2,h3,h4⟩) (⟨l5,rfl,au,(uq.free (s4.free Cb)),(λz=>by rw[z,s4 _ _ (sI _ _ i9)]at Cb;cases Cb)⟩)
   rintro zs H4 ⟨_,s4,e⟩;rw[iE w6]at e;have Zi:=Paired.length e;refine⟨cO (c9 wu),λlo F8=>?_⟩;have s5:af H4 (upd H4 lo (.lst zs)):=aH (af.refl _) F8;have ux:upd H4 lo (.lst zs) lo=some (.lst zs):=au;generalize upd H4 lo (.lst zs)=H5 at s5 ux ⊢;have B5:=s4.trans s5;have uo:=uq.trans B5;have nol:lo≠l:=λz=>by rw[z,s4 _ _ (sI _ _ i9)]at F8;cases F8
   refine vM rfl (uo _ _ hm) (G.ms _ dk) (jh m A S rfl (M.same uo) W.wf (jd hL uo) λH6 lm mvs k6 yy N' OQ aoY=>?_);refine⟨by show 4<=aP;decide,λp np=>?_⟩;have s7:af H6 (upd H6 p (.tup [.ref lb,.ref ld,.ref lo,.ref lm])):=aH (af.refl _) np;have Gu:upd H6 p (.tup [.ref lb,.ref ld,.ref lo,.ref lm]) p=some (.tup [.ref lb,.ref ld,.ref lo,.ref lm]):=au;generalize upd H6 p (.tup [.ref lb,.ref ld,.ref lo,.ref lm])=H7 at s7 Gu ⊢;have L57:∀b xs,H5 b=some (.lst xs)->H7 b=some (.lst xs):=λb xs z=>s7 _ _ (k6.ml z);have T57:∀b xs,H5 b=some (.tup xs)->H7 b=some (.tup xs):=λb xs z=>s7 _ _ (k6.nu _ _ z);have sH:=sI.trans B5;have yt:=L57 _ _ (sH _ _ i9);have nml:lm≠l:=λz=>by rw[z,sH _ _ i9]at N';cases N'
   have h4':S.ck.length<=4:=w0;refine jh l us (.ref p) rfl rfl yt (by rw[pQ,fu];exact wb) ?_
   have k2:∀b xs,H7 b=some (.tup xs)->upd H7 l (.lst (us++[.ref p])) b=some (.tup xs):=λb xs e=>by
    rw[aj (λz=>by rw[z,yt]at e;cases e)];exact e
   have k1:∀b xs,b≠l->H7 b=some (.lst xs)->upd H7 l (.lst (us++[.ref p])) b=some (.lst xs):=λb xs z e=>by
    rw[aj z];exact e
   have Zb:aM gL H H7:=((aM.of uo).trans k6).trans (aM.of s7);have yr:upd H7 l (.lst (us++[.ref p])) l=some (.lst (us++[.ref p])):=au;have G8:=Kv (o:=.lst (us++[.ref p])) yt (jd yy s7)
   have Za:aM gL H (upd H7 l (.lst (us++[.ref p]))):=⟨λb o h1 h2 e=>by
    rw[aj (λz=>by rw[z,nl]at e;cases e)];exact Zb.k b o h1 h2 e,λb e=>by
    by_cases z:b=l
    ·rw[z];exact nl
    ·rw[aj z]at e;exact Zb.t b e⟩
   generalize upd H7 l (.lst (us++[.ref p]))=H8 at k1 k2 yr G8 Za ⊢;refine vr rfl (q _ _ Za G8 λH9 kp=>?_);have up:∀b xs,b≠l->H b=none->H5 b=some (.lst xs)->H9 b=some (.lst xs):=λb xs n n0 e=>kp.1 b xs n0 (k1 _ _ n (L57 _ _ e));have ut:∀b xs,H5 b=some (.tup xs)->H9 b=some (.tup xs):=λb xs e=>kp.2 b xs (k2 _ _ (T57 _ _ e));refine .lst (av.of (kp.1 _ _ nl yr)) (Sd (tE (λv a z=>z) (Paired.b8 qO λv k z=>(z.keep (H':=H9) (λb xs n n0 e=>up b xs n n0 (sH _ _ e)) λb xs e=>ut b xs (sH _ _ e)).dat (H':=H9) ⟨λ_ _ _ e=>e,λ_ _ e=>e⟩)) ?_);refine .tup (aE.of (kp.2 _ _ (k2 _ _ Gu))) (.cons (JH (up _ _ nbl (s1.free F') (B5 _ _ (s3 _ _ ZI)))) (.cons (.lst (av.of (up _ _ ndl (s1.free (s2.free F9)) (B5 _ _ ZH))) (tE (λv a q=>aj0 q) (Paired.b8 hwd λ_ _ q=>q.keep λb xs e=>ut _ _ (B5 _ _ (s3 _ _ e))))) (.cons (.lst (av.of (up _ _ nol (uq.free (s4.free F8)) ux)) (tE (λv a ⟨b,h1,h2,h3,h4⟩=>by rw[h1];exact JH (up _ _ h4 h3 (s5 _ _ h2))) e)) (.cons (.lst (av.of (kp.1 _ _ (uo.free N') (k1 _ _ nml (s7 _ _ OQ)))) (tE (λv a ⟨b,h1,h2⟩=>by rw[h1];exact Br (kp.2 _ _ (k2 _ _ (s7 _ _ h2)))) aoY)) .nil))))
end
inductive kJ:Mc->List Mv->Mc->Prop
 | nil (S:Mc):kJ S [] S
 | snoc {S S':Mc} {ms:List Mv} {mv:Mv} {r:List Mv}:kJ S ms S'->iJ S'=mv::r->kJ S (ms++[mv]) (jx S' mv)
def ig(S:Mc):Nat:=(S.ck.map λk=>k.es.length).sum
theorem sum_set{α:Type}(f:α->Nat){x y:α}:∀{l:List α} {c:Nat},l[c]?=some x->((l.set c y).map f).sum+f x=(l.map f).sum+f y
 | [],_,h=>by simp at h
 | z::l,0,h=>by
  simp at h;subst h;simp only[List.set_cons_zero,iF,QA];lia
 | z::l,c+1,h=>by
  have ih:=sum_set f (y:=y) (l:=l) (c:=c) (by simpa using h);simp only[List.set_cons_succ,iF,QA];lia
theorem adE{S:Mc}{c n:Nat}{k:Ck}{e:Ent}{r:List Ent}(hk:S.ck[c]?=some k)(hq:bV k.es n=e::r):ig (kE S c n)<ig S:=by
 have hm:e∈bV k.es n:=by rw[hq];simp
 unfold bV at hm;refine oA (rm.mp hm) λh1 h2=>?_;unfold kE;rw[hk];dsimp only;rw[hq];show ((S.ck.set c { k with es:=lN k.es n }).map λk=>k.es.length).sum<_;have h3:=sum_set (λk:Ck=>k.es.length) (y:={ k with es:=lN k.es n }) hk
 have h4:(lN k.es n).length=k.es.length-1:=by
  unfold lN;exact List.length_eraseP_of_mem h1 h2
 have h5:0<k.es.length:=List.length_pos_of_mem h1;unfold ig;have h6:({ k with es:=lN k.es n }:Ck).es.length=(lN k.es n).length:=rfl;rw[h6,h4]at h3;lia
theorem AN{S:Mc}{mv:Mv}(h:mv∈iJ S):∃(c:Nat) (k:Ck) (n:Int),mv=(("carry" : Str),[(c:Int),n])/\S.ck[c]?=some k/\n∈ju S.kd k.es:=by
 unfold iJ vD at h;refine ah (abg.mp h) λaa hx hm=>?_;obtain⟨k,c⟩:=aa;unfold BA at hm;refine ah (rB.mp hm) λn hn aa=>?_;subst aa;exact⟨c,k,n,rfl,(aad.mp hx),hn⟩
theorem Qv{S:Mc}{mv:Mv}(h:mv∈iJ S):mv∈iL S:=gg _ h
theorem Ru{S:Mc}{mv:Mv}(hwf:∀k∈S.ck,mG k.tn k.es)(h:mv∈iJ S):ig (jx S mv)<ig S:=by
 refine kA (AN h) λc k n aa hk hf=>?_;subst aa;refine aL (IZ (hwf k (cQ hk)) hf) λi _ aa bc=>?_;subst aa;refine xO bc λe r hq=>?_;unfold jx;rw[if_neg (show ¬("carry" : Str) = "do" from dk)];show ig (kE S ((c:Int)).toNat ((i:Int)).toNat)<ig S;rw[lZ,lZ];exact adE hk hq
theorem aU.vw{t:aZ}{C CT:Addr}{H:Hp}{m:Addr}{A:MA}{S:Mc}(M:aU t C CT H m A S){b:Addr}(hb:bG m A b):∃o,H b=some o/\((∃C dx fs,o=.ins C dx fs)\/∃xs,o=.lst xs):=by
 cases hb with
 | m=>obtain⟨dx,fs,h,_⟩:=M.obj;exact⟨_,h,.inl ⟨_,_,_,rfl⟩⟩
 | lt=>exact⟨_,M.lt,.inr ⟨_,rfl⟩⟩
 | pl=>exact⟨_,M.pl,.inr ⟨_,rfl⟩⟩
 | ct=>exact⟨_,M.ct,.inr ⟨_,rfl⟩⟩
 | rg=>exact⟨_,M.rg,.inr ⟨_,rfl⟩⟩
 | ce=>exact⟨_,M.ce,.inr ⟨_,rfl⟩⟩
 | ac=>obtain⟨vs,h,_⟩:=M.ac;exact⟨_,h,.inr ⟨_,rfl⟩⟩
 | cm=>exact⟨_,M.cm,.inr ⟨_,rfl⟩⟩
 | rs h=>obtain⟨c,_,q⟩:=lK M.rs h;exact⟨_,q,.inr ⟨_,rfl⟩⟩
 | cs h=>obtain⟨c,_,q⟩:=lK M.cs h;exact⟨_,q,.inr ⟨_,rfl⟩⟩
 | ts h h2=>
  refine ah (lK M.ts h) λc _ q=>?_;refine oE (q.there _ h2) λo e=>?_;exact⟨o,e,q.kinds _ h2 _ e⟩
theorem aU.BH{t:aZ}{C CT:Addr}{H:Hp}{m:Addr}{A:MA}{S:Mc}(M:aU t C CT H m A S):∀b,bG m A b->∀xs,H b≠some (.tup xs):=λb hb xs e=>by
 refine ah (M.vw hb) λo e' h=>?_;rw[e]at e';cases e';rcases h with ⟨_,_,_,z⟩ | ⟨_,z⟩ <;> cases z
theorem aU.Wv{t:aZ}{C CT:Addr}{H:Hp}{m:Addr}{A:MA}{S:Mc}(M:aU t C CT H m A S):∀k∈S.ck,mG k.tn k.es:=λk hk=>by
 refine oE (wH hk) λi hi=>?_;refine ah (M.tX hi) λx _ T=>?_;exact T.wf
theorem Lr{H:Hp}(mv:Mv):∀x∈lS mv,∃T,tyName H x=some T:=by
 intro x hx;unfold lS at hx;rcases bq.mp hx with e | e
 ·rw[e];exact⟨_,rfl⟩
 ·refine ah (rB.mp e) λi _ aa=>?_;subst aa;exact⟨_,rfl⟩
section
variable{t:aZ}{C CT:Addr}
def Ss(t:aZ)(C CT PT:Addr):Sp:=λvs H Q _=>∃m A S lab n,vs=[.ref m]/\aU t C CT H m A S/\jk lab m A/\gK n S/\n+ig S<=10000/\cJ PT LP LQ H/\
 ∀H' l ws ms S' n',kJ S ms S'->iJ S'=[]->gK n' S'->n'+ig S'<=n+ig S->aU t C CT H' m A S'->aM (bG m A) H H'->cJ PT LP LQ H'->H l=none->H' l=some (.lst ws)->Paired (gG H') ws ms->Q (.ref l) H'
theorem DH:bg ["self","made","carries"] ["self"] (aQ Kj):=bu
theorem aeT{f fC fD PT jR:Addr}{fd lH fdD:aV}(F:aW K "settle" "Machine.settle" Kj f fd)(cM:gw K C)(gd:mg "len" = none)
  (GC:aw P w K mg base az 3 fC lH ["self"] (IU t C CT PT)) (bC:Binds K lH ["self"] []) (mC:Meth K C "carries" fC)
  (GD:aw P w K mg base (dg P w) 7 fD fdD ["self","move"] (EY t C CT PT jR)) (bD:Binds K fdD ["self","move"] []) (mD:Meth K C "do" fD):aw P w K mg base az 8 f fd ["self"] (Ss t C CT PT):=by
 have CZ:=xq GD;refine F.ok DH (λvs H Q E h=>?_) λaI A _ s H vs Q E hr h=>?_
 ·obtain⟨m,A,S,lab,n,aa,_⟩:=h;subst aa;rfl
 ·obtain⟨m,A,S,lab,n,aa,M,L,W,hn,lam,q⟩:=h;subst aa;have pS:=hr.mono (show 3<=7 by decide);refine⟨_,ax (bZ (i:=1) DH.nd rfl (aR rfl) (dW ag)) (ax (bZ (i:=2) DH.nd rfl (aR rfl) (jr (pv 0) cM.cl mC GC pS bC .nil aS)) (ax (af8 uP (cw EF (cA iG rfl gd PySem.boot_len (ae (pv 2) ag)) ay (bU _)) (ax (dQ (iK (pv 0) cM.cl mD CZ hr bD .nil aS (ae (aT cI (pv 2) ay) ag))) (ax (dQ (mh PySem.F.plainAttrs_list PySem.F.slot_list_append PySem.F.type_list_append oZ (pv 1) (ae (aT cI (pv 2) ay) ag))) (aB (bZ (i:=2) DH.nd rfl (aR rfl) (jr (pv 0) cM.cl mC GC pS bC .nil aS)))))) (aB (a8 (pv 1))))),?_⟩;have fu:=lu;refine⟨qc,λlw nw=>?_⟩;have s0:af H (upd H lw (.lst [])):=aH (af.refl _) nw;have OE:upd H lw (.lst []) lw=some (.lst []):=au
  have YX:¬bG m A lw:=λz=>by
   refine ah (M.vw z) λo e _=>?_;rw[nw]at e;cases e
  generalize upd H lw (.lst [])=H0 at s0 OE ⊢;refine a9 (id (M.same s0).obj) λdx fs hm G=>?_;refine vM rfl hm (G.ms _ dk) (jh m A S rfl (M.same s0) W.wf.four (jd lam s0) λH1 lc cs k1 uc nc hc wA=>?_);refine⟨λμ σ H2=>∃S' ms ws lc cs n',σ=[some (.ref m),some (.ref lw),some (.ref lc)]/\μ=ig S'/\kJ S ms S'/\aU t C CT H2 m A S'/\gK n' S'/\ms.length+ig S'<=ig S/\n'+ig S'<=n+ig S/\cJ PT LP LQ H2/\aM (bG m A) H H2/\H2 lw=some (.lst ws)/\Paired (gG H2) ws ms/\H2 lc=some (.lst cs)/\¬bG m A lc/\lc≠lw/\Paired (gG H2) cs (iJ S'),⟨_,S,[],[],lc,cs,n,rfl,rfl,.nil S,(M.same s0).gm k1,W,by simp,aF _,uc,(aM.of s0).trans (k1.mono λb z=>z.elim),k1.ml OE,.nil,hc,λz=>?_,λz=>?_,wA⟩,?_⟩
  ·refine ah ((M.same s0).vw z) λo e _=>?_;rw[nc]at e;cases e
  ·rw[z,OE]at nc;cases nc
  rintro μ σ H2 ⟨S',ms,ws,lc,cs,n',rfl,rfl,hC,M2,W2,pW,yw,oj,k2,Ab,BR,qV,nc2,ncw,Xu⟩;have qU:=Paired.length Xu;refine vr rfl (dv lc cs rfl (.inl (av.of qV)) ⟨_,⟨_,rfl,rfl,_,rfl,cx (λdB=>?_) λuy=>?_⟩⟩)
  ·have BS:0<cs.length:=li;have h0:cs[0]?=some cs[0]:=bb BS;refine ah (uS Xu h0) λmv oJ aa=>?_;refine ah aa λp ep hp=>?_
   obtain⟨r,Pd⟩:∃r,iJ S'=mv::r:=by
    cases e:iJ S' with
    | nil=>rw[e]at oJ;simp at oJ
    | cons x r=>rw[e]at oJ;simp at oJ;exact⟨r,by rw[oJ]⟩
   have iD:mv∈iJ S':=by rw[Pd];simp
   have vK:=Qv iD;have Zo:=Ru M2.Wv iD;refine⟨λσ' H'=>∃μ',μ'<ig S'/\∃yC Of Yc Ga sU Y3,σ'=[some (.ref m),some (.ref lw),some (.ref Ga)]/\μ'=ig yC/\kJ S Of yC/\aU t C CT H' m A yC/\gK Y3 yC/\Of.length+ig yC<=ig S/\Y3+ig yC<=n+ig S/\cJ PT LP LQ H'/\aM (bG m A) H H'/\H' lw=some (.lst Yc)/\Paired (gG H') Yc Of/\H' Ga=some (.lst sU)/\¬bG m A Ga/\Ga≠lw/\Paired (gG H') sU (iJ yC),λσ' H' z=>z,?_⟩;refine a9 (id M2.obj) λkh jH Ag G2=>?_;have hat:ir cs (0:Nat)=some (.ref p):=by rw[<-ep];exact dG h0
   refine vM rfl Ag (G2.ms _ dk) (vr rfl (rL (v:=.ref p) (av.of qV) (hat) (⟨m,A,S',p,_,lab,rfl,M2,L,W2.wf,(W2.NM li),oj,hp,(Lr _),(⟨?_,(λz0 e=>(by rw[<-xg e];exact yZ vK)),(λz0 e zM H3 M3 k3 vJ=>?_),(λz _ _ _=>absurd vK (z mv rfl))⟩)⟩)))
   ·refine eV (AN iD) λc k i aa _=>?_;subst aa;simp[lS]
   have CO:=xg e;subst CO;have Y6:=k3.tup λb z=>M2.BH b z;have yk:=k3.k _ _ YX (λps z=>by cases z) Ab;have Ak:=k3.k _ _ nc2 (λps z=>by cases z) qV;have sP:=Paired.length BR;refine c8 _ rfl (.inl ⟨rfl,_,av.of yk⟩) (vr rfl (rL (v:=.ref p) (av.of Ak) (hat) (jh lw ws (.ref p) rfl rfl yk (by rw[fu];lia) ?_)));have Y5:=tF (o:=.lst (ws++[.ref p])) yk;have k4:aM (λb=>b=lw) H3 (upd H3 lw (.lst (ws++[.ref p]))):=aM.upd rfl;have M4:=M3.V4 k4 λb z=>⟨by rw[z];exact YX,λo e=>by rw[z,yk]at e;cases e;exact⟨_,rfl⟩⟩;have zJ:=Kv (o:=.lst (ws++[.ref p])) yk vJ;have OD:upd H3 lw (.lst (ws++[.ref p])) lw=some (.lst (ws++[.ref p])):=au;have K4:aM (bG m A) H (upd H3 lw (.lst (ws++[.ref p]))):=⟨λb o h1 h2 e=>k4.k b o (λz=>by rw[z,nw]at e;cases e) h2 (k3.k b o h1 h2 (k2.k b o h1 h2 e)),λb e=>k2.t b (k3.t b (k4.t b e))⟩;have P4:Paired (gG (upd H3 lw (.lst (ws++[.ref p])))) (ws++[.ref p]) (ms++[mv]):=nR (Paired.b8 BR λ_ _ q=>gG.keep (λb xs e=>Y5 _ _ (Y6 _ _ e)) q) ⟨p,rfl,Y5 _ _ (Y6 _ _ hp)⟩;generalize upd H3 lw (.lst (ws++[.ref p]))=H4 at k4 M4 zJ OD K4 P4 ⊢;have W4:=Kt W2 li vK;refine a9 (id M4.obj) λHc qY sS G4=>?_;refine vM rfl sS (G4.ms _ dk) (jh m A (jx S' mv) rfl M4 W4.wf.four zJ λH5 lc5 cs5 k5 Nj Oc hc5 ao8=>?_);refine⟨_,⟨Zo,jx S' mv,ms++[mv],ws++[.ref p],lc5,cs5,n'+1,rfl,rfl,.snoc hC Pd,M4.gm k5,W4,by rw[cX];simp;lia,li,Nj,K4.trans (k5.mono λb z=>z.elim),k5.ml OD,Paired.b8 P4 λ_ _ q=>gG.keep k5.nu q,hc5,λz=>?_,λz=>?_,ao8⟩⟩
   ·refine ah (M4.vw z) λo e _=>?_;rw[Oc]at e;cases e
   ·rw[z,OD]at Oc;cases Oc
  ·have e0:iJ S'=[]:=sW.mp li;exact vr rfl (q H2 lw ws ms S' n' hC e0 W2 yw M2 k2 oj nw Ab BR)
end
theorem Ie{d:PyData}(h:shaped d=true):d.canLay0=true/\d.depth<=64:=by
 unfold shaped at h;rw[fJ]at h;exact⟨h.1,by have:=of_decide_eq_true h.2;omega⟩
theorem alq(k:Ck):(vZ k).canLay0=true:=by
 have h1:=oX (f:=jf) (l:=k.rg) (λa _=>rfl);have h2:=oX (f:=pairD) (l:=k.es) (λa _=>by simp[pairD,lp,kj]);unfold vZ;simp only[lp,kj,h1,h2];rfl
theorem ajT(k:Ck):(vZ k).depth<=10:=by
 have h1:=lL (f:=jf) (k:=1) (l:=k.rg) (λa _=>by simp[iT]);have h2:=lL (f:=pairD) (k:=2) (l:=k.es) (λa _=>by simp[pairD,iT,lI]);unfold vZ;simp only[iT,lI];lia
theorem ahI(a:Act):(ua a).depth<=3:=by
 unfold ua;have h1:=(tO a.got).2;have h2:=(tO a.gave).2;have h3:=(tO a.seen).2;simp only[iT,lI];lia
theorem akL{mv:Mv}(h:lJ mv.1=true):(my mv).canLay0=true:=(Ie (Dz h)).1
theorem aiK(mv:Mv):(my mv).depth<=3:=by
 have h1:=lL (f:=jf) (k:=1) (l:=mv.2) (λa _=>by simp[iT]);unfold my;simp only[iT,lI];lia
theorem ajN{S:Mc}(CD:xH S):(BM S).canLay0=true:=by
 have h1:=oX (f:=jf) (l:=S.bd) (λa _=>rfl)
 have h2:kj (S.ac.map ua)=true:=by
  have:=(Ie (adB CD)).1;simpa only[lp]using this
 have h3:kj (S.ov.map λo=>Iy (o.map jf))=true:=by
  have:=(Ie (acM S.ov)).1;simpa only[lp]using this
 have h4:=oX (f:=my) (l:=iL S) (λa ha=>akL (yZ ha));unfold BM;simp only[lp,kj,h1,h2,h3,h4];rfl
theorem ahz(S:Mc):(BM S).depth<=10:=by
 have h1:=lL (f:=jf) (k:=1) (l:=S.bd) (λa _=>by simp[iT]);have h2:=lL (f:=ua) (k:=3) (l:=S.ac) (λa _=>ahI a)
 have h3:=lL (f:=λo:List Int=>Iy (o.map jf)) (k:=2) (l:=S.ov) (λa _=>by
  have h:=lL (f:=jf) (k:=1) (l:=a) (λa _=>by simp[iT]);simp only[iT];lia)
 have h4:=lL (f:=my) (k:=3) (l:=iL S) (λa _=>aiK a);unfold BM;simp only[iT,lI];lia
theorem Rn:∀{xs:List PyData} {y:PyData},kj xs=true->y.canLay0=true->kj (xs++[y])=true
 | [],y,_,h=>by simp only[uQ,kj,h];rfl
 | x::xs,y,h,hy=>by
  simp only[kj,fJ]at h;simp only[Qk,kj,h.1,Rn h.2 hy];rfl
theorem Sb:∀{xs:List PyData} {y:PyData} {n:Nat},lI xs<=n->y.depth<=n->lI (xs++[y])<=n
 | [],y,n,_,h=>by simp only[uQ,lI];lia
 | x::xs,y,n,h,hy=>by
  simp only[lI]at h;have:=Sb (xs:=xs) (y:=y) (n:=n) li hy;simp only[Qk,lI];lia
theorem Ic{S:Mc}(CD:xH S):shaped (Bh S)=true:=by
 have h1:=Rn (oX (f:=vZ) (l:=S.ck) λa _=>alq a) (ajN CD);have h2:=Sb (lL (f:=vZ) (k:=10) (l:=S.ck) λa _=>ajT a) (ahz S);unfold shaped Bh;rw[fJ];refine⟨by simp only[lp];exact h1,decide_eq_true ?_⟩;simp only[iT];lia
theorem adj(S:Mc):(iL S).filter (λmv=>decide (mv.1=("carry" : Str)))=iJ S:=by
 unfold iL;rw[Dd,List.filter_eq_nil_iff.mpr,List.filter_eq_self.mpr,uQ]
 ·intro mv h;obtain⟨c,k,n,rfl,_,_⟩:=AN h;rfl
 ·intro mv h z;unfold t7 at h;obtain⟨c,_,rfl⟩:=rB.mp h;exact absurd (of_decide_eq_true z) (show ¬("do" : Str) = "carry" from dk)
theorem aU.akF{t:aZ}{C CT:Addr}{H:Hp}{m:Addr}{A:MA}{S:Mc}(M:aU t C CT H m A S){b:Addr}(hb:bG m A b){c dx:Addr}{fs:List (Str×V)}(e:H b=some (.ins c dx fs)):fs.lookup ("trays" : Str)≠none\/fs.lookup ("queues" : Str)≠none:=by
 have no:∀{xs:List V},H b=some (.lst xs)->fs.lookup ("trays" : Str)≠none\/fs.lookup ("queues" : Str)≠none:=λh=>by rw[e]at h;cases h
 cases hb with
 | m=>obtain⟨yB,lY,h,G⟩:=M.obj;rw[e]at h;cases h;exact .inl (by rw[G.fh];exact λz=>by cases z)
 | lt=>exact no M.lt
 | pl=>exact no M.pl
 | ct=>exact no M.ct
 | rg=>exact no M.rg
 | ce=>exact no M.ce
 | ac=>obtain⟨vs,h,_⟩:=M.ac;exact no h
 | cm=>exact no M.cm
 | rs h=>obtain⟨c,_,q⟩:=lK M.rs h;exact no q
 | cs h=>obtain⟨c,_,q⟩:=lK M.cs h;exact no q
 | ts h h2=>
  obtain⟨c,_,q⟩:=lK M.ts h;rcases bq.mp h2 with z | z
  ·obtain⟨yB,lY,h1,_,_,h4,_⟩:=c7.obj q;rw[<-z,e]at h1;cases h1;exact .inr (by rw[h4];exact λz=>by cases z)
  ·rcases bq.mp z with z | z
   ·exact no (by rw[z];exact c7.qs q)
   ·obtain⟨i,hi,ei⟩:=uH z;obtain⟨ws,hw,_⟩:=c7.jC q i _ (by rw[bb hi,ei]);exact no hw
theorem aU.other{t:aZ}{C CT:Addr}{H H':Hp}{m x:Addr}{A A1:MA}{S S1:Mc}(M1:aU t C CT H x A1 S1)(M:aU t C CT H m A S)(k:aM (bG m A) H H')(dj:∀b,bG x A1 b->¬bG m A b):aU t C CT H' x A1 S1:=by
 have k1:∀b,bG x A1 b->∀o,H b=some o->H' b=some o:=λb hb o e=>k.k b o (dj b hb) (λps z=>by
  obtain⟨o',e',h⟩:=M1.vw hb;rw[e]at e';cases e';rcases h with ⟨_,_,_,h⟩ | ⟨_,h⟩ <;> rw[h]at z <;> cases z) e
 have kt:=k.tup M.BH;obtain⟨⟨dx,fs,h1,h2⟩,lt,ts,pg,⟨vs,s1,s2⟩,pl,ct,rg,rs,ce,⟨us,a1,a2⟩,cm,cs⟩:=M1;refine⟨⟨dx,fs,k1 _ .m _ h1,h2⟩,k1 _ .lt _ lt,?_,pg.keep kt,⟨vs,kt _ _ s1,Paired.b8 s2 λ_ _ q=>q.keep kt λb C dx fs e h=>?_⟩,k1 _ .pl _ pl,k1 _ .ct _ ct,k1 _ .rg _ rg,?_,k1 _ .ce _ ce,⟨us,k1 _ .ac _ a1,Paired.b8 a2 λ_ _ q=>q.keep kt⟩,k1 _ .cm _ cm,?_⟩
 ·exact gh ts λi x c hx _ q=>q.keep (λb hb o e=>k1 b (.ts (cQ hx) hb) o e) kt
 ·refine k.k b _ (λhb=>?_) (λps z=>by cases z) e;obtain⟨y,ps,v,_,rfl⟩:=h;rcases M.akF hb e with z | z
  ·exact z (xj "trays" dk v y ps)
  ·exact z (xj "queues" dk v y ps)
 ·exact gh rs λi x c hx _ q=>k1 x (.rs (cQ hx)) _ q
 ·exact gh cs λi x c hx _ q=>k1 x (.cs (cQ hx)) _ q
theorem IA{t:aZ}{C CT:Addr}{H:Hp}{m x:Addr}{A A1:MA}{S:Mc}(M:aU t C CT H m A S)(fr:∀b,bG x A1 b->H b=none):∀b,bG x A1 b->¬bG m A b:=λb h1 h2=>by
 obtain⟨o,e,_⟩:=M.vw h2;rw[fr b h1]at e;cases e
theorem Sf{S S':Mc}{ms:List Mv}{mv:Mv}(h:kJ S (ms++[mv]) S'):∃S1 r,kJ S ms S1/\iJ S1=mv::r/\S'=jx S1 mv:=by
 generalize e:ms++[mv]=l at h;cases h with
 | nil=>simp at e
 | snoc h1 h2=>
  obtain⟨e1,e2⟩:=List.append_inj' e rfl;cases e2;subst e1;exact⟨_,_,h1,h2,rfl⟩
theorem Tp{S S1 S2:Mc}{ms:List Mv}(h1:kJ S ms S1)(h2:kJ S ms S2):S1=S2:=by
 induction h1 generalizing S2 with
 | nil=>
  generalize e:([]:List Mv)=l at h2;cases h2 with
  | nil=>rfl
  | snoc _ _=>simp at e
 | snoc _ _ ih=>
  obtain⟨T,r,a,b,rfl⟩:=Sf h2;rw[ih a]
theorem afE{S S':Mc}{ms:List Mv}(h:kJ S ms S'):∀i,i<=ms.length->∃T,kJ S (ms.take i) T:=by
 induction h with
 | nil=>intro i _;exact⟨_,by rw[List.take_nil];exact .nil _⟩
 | @snoc S1 ms mv r h1 h2 ih=>
  intro i hi;rw[cX]at hi
  by_cases z:i<=ms.length
  ·obtain⟨T,q⟩:=ih i z;exact⟨T,by rw[PM z];exact q⟩
  ·have:i=(ms++[mv]).length:=by
    rw[cX];simp only[fG,List.length_nil]at hi ⊢;lia
   rw[this,HJ];exact⟨_,.snoc h1 h2⟩
theorem ajV{S S':Mc}{ms:List Mv}(h:kJ S ms S'){i:Nat}{mv:Mv}(hi:ms[i]?=some mv){T:Mc}(hT:kJ S (ms.take i) T):(∃r,iJ T=mv::r)/\kJ S (ms.take (i+1)) (jx T mv):=by
 have hl:i<ms.length:=(eJ.mp hi).1;obtain⟨T2,q⟩:=afE h (i+1) hl;have e:ms.take (i+1)=ms.take i++[mv]:=by rw[lj,hi];rfl
 rw[e]at q ⊢;obtain⟨T1,r,a,b,c⟩:=Sf q;have:=Tp a hT;subst this;subst c;exact⟨⟨r,b⟩,q⟩
theorem Lk(S:Mc)(c r:Nat)(v:Int):(gv S c r v).ac=S.ac:=by unfold gv;cases S.ck[c]? <;> rfl
theorem Bo(S:Mc)(c r:Nat)(v:Int):(gv S c r v).kd=S.kd/\(gv S c r v).ps=S.ps:=by unfold gv;cases S.ck[c]? <;> exact⟨rfl,rfl⟩
theorem ak6(S:Mc)(c:Nat)(s:Tl):(qB S c s).ac=S.ac:=by unfold qB;cases S.ck[c]? <;> rfl
theorem Vb(S:Mc)(c:Nat)(s:Tl):(qB S c s).kd=S.kd/\(qB S c s).ps=S.ps:=by unfold qB;cases S.ck[c]? <;> exact⟨rfl,rfl⟩
theorem JS(S:Mc)(c n:Nat):(kE S c n).ac=S.ac:=by
 unfold kE;cases S.ck[c]? with
 | none=>rfl
 | some k=>
  dsimp only;cases (bV k.es n).head? <;> rfl
theorem JR(S:Mc)(c n:Nat):(kE S c n).kd=S.kd/\(kE S c n).ps=S.ps:=by
 unfold kE;cases S.ck[c]? with
 | none=>exact⟨rfl,rfl⟩
 | some k=>
  dsimp only;cases (bV k.es n).head? <;> exact⟨rfl,rfl⟩
def lF(S S':Mc):Prop:=(S'.ac=S.ac\/∃a,S'.ac=S.ac++[a]/\lJ a.k=true)/\S'.kd=S.kd/\S'.ps=S.ps
theorem lF.ok{S S':Mc}(m:lF S S')(h:xH S):xH S':=by
 intro b hb;rcases m.1 with e | ⟨a,e,ha⟩ <;> rw[e]at hb
 ·exact h b hb
 ·rcases jo.mp hb with y | y
  ·exact h b y
  ·rw[gz.mp y];exact ha
theorem lF.refl(S:Mc):lF S S:=⟨.inl rfl,rfl,rfl⟩
theorem ahW(S:Mc)(c n r:Nat):lF S (setM S c n r):=by
 unfold setM;cases S.ck[c]? with
 | none=>exact lF.refl S
 | some k=>
  dsimp only
  split
  ·exact⟨.inr ⟨_,by rw[JS];rfl,by show lJ "set" = true;decide +kernel⟩,by rw[(JR _ _ _).1];rfl,by rw[(JR _ _ _).2];rfl⟩
  ·exact⟨.inr ⟨_,rfl,by show lJ "set" = true;decide +kernel⟩,rfl,rfl⟩
theorem agJ(S:Mc)(c r n:Nat):lF S (pj S c r n):=by
 unfold pj;cases S.ck[c]? with
 | none=>exact lF.refl S
 | some k=>exact⟨.inr ⟨_,by dsimp only;rw[Lk];rfl,by show lJ "look" = true;decide +kernel⟩,by dsimp only;rw[(Bo _ _ _ _).1];rfl,by dsimp only;rw[(Bo _ _ _ _).2];rfl⟩
theorem afT(S:Mc)(c r n:Nat):lF S (qo S c r n):=by
 unfold qo;cases S.ck[c]? with
 | none=>exact lF.refl S
 | some k=>exact⟨.inr ⟨_,by dsimp only;rw[Lk];rfl,by show lJ "swap" = true;decide +kernel⟩,by dsimp only;rw[(Bo _ _ _ _).1];rfl,by dsimp only;rw[(Bo _ _ _ _).2];rfl⟩
theorem T8(S:Mc)(c r:Nat)(v:Int):lF S (gv S c r v):=⟨.inl (Lk S c r v),Bo S c r v⟩
theorem ajP(S:Mc)(c:Nat)(s:Tl):lF S (cy S c s):=by
 unfold cy
 split
 ·exact T8 _ _ _ _
 ·split
  ·cases S.ck[c]? with
   | none=>exact lF.refl S
   | some k=>exact T8 _ _ _ _
  ·split
   ·exact ahW _ _ _ _
   ·split
    ·exact agJ _ _ _ _
    ·split
     ·exact afT _ _ _ _
     ·exact lF.refl S
theorem agI(S:Mc)(mv:Mv):lF S (jx S mv):=by
 unfold jx
 split
 ·unfold vY
  split
  ·split
   ·have h:=ajP S (mv.2.getD 0 0).toNat;refine⟨?_,?_,?_⟩
    ·rw[ak6];exact(h _).1
    ·rw[(Vb _ _ _).1];exact(h _).2.1
    ·rw[(Vb _ _ _).2];exact(h _).2.2
   ·exact lF.refl S
  ·exact lF.refl S
 ·exact⟨.inl (JS _ _ _),JR _ _ _⟩
theorem Uy{S S':Mc}{ms:List Mv}(h:kJ S ms S'):S'.ac=S.ac:=by
 induction h with
 | nil=>rfl
 | snoc h1 h2 ih=>
  obtain⟨c,k,n,e,_,_⟩:=AN (by rw[h2];exact dE);rw[e];unfold jx;rw[if_neg (show ¬("carry" : Str) = "do" from dk),JS];exact ih
theorem ahG{S S':Mc}{ms:List Mv}(h:kJ S ms S')(h0:iJ S=[]):ms=[]/\S'=S:=by
 induction h with
 | nil=>exact⟨rfl,rfl⟩
 | snoc h1 h2 ih=>
  obtain⟨_,e⟩:=ih;rw[e,h0]at h2;cases h2
theorem UM{α:Type}(f:α->Nat)(n:Nat):∀(l:List α),(∀x∈l,f x<=n)->(l.map f).sum<=l.length*n
 | [],_=>by simp
 | x::l,h=>by
  have h1:=h x dE;have h2:=UM f n l λy hy=>h y (dn _ hy);rw[iF,QA,fG,QO];omega
theorem ahO{n:Nat}{S:Mc}(W:gK n S):ig S<=4*n:=by
 have h:=UM (λk:Ck=>k.es.length) n S.ck λk hk=>cu (W.wf.es k hk) W.ac;have h4:=W.wf.four;unfold ig;exact cu h (Nat.mul_le_mul_right n h4)
theorem agA:(["tray"]:List Str).Nodup:=dk
theorem agB:(["regs"]:List Str).Nodup:=dk
theorem ad0:(["comers"]:List Str).Nodup:=dk
theorem agS:qu [[]]:=⟨qc,qc,λp hp=>by
 rw[gz.mp hp];exact⟨qc,λt z=>by cases z⟩⟩
theorem aY.sh{m C dx:Addr}{fs:List (Str×V)}{H H':Hp}(k:aY m H H')(hm:H m=some (.ins C dx fs)){b:Addr}{xs:List V}(e:H b=some (.lst xs)):H' b=some (.lst xs):=k.k b _ (λz=>by rw[z,hm]at e;cases e) e
theorem DU{K:W.Frag}{H h:Hp}{m x C dx cW a:Addr}{fs f:List (Str×V)}{fld:Str}{xs:List V}{u:V}{D:Ends}{σ:L2.St}{R:Addr->Nat->Prop}(n:Nat)(e0:σ[0]?=some (some (.ref m)))(e1:σ[1]?=some (some (.ref x)))(hm:h m=some (.ins C dx fs))(cl:eh K C)(na:bj K C fld)(lk:fs.lookup fld=some (.ref a))(ha:h a=some (.lst xs))(hx:h x=some (.ins C cW f))(hf:f.length<=20)(O:Own H x h R)(lx:f.lookup fld=some u)
  (q:∀l h' f' R',f'=aD fld (.ref l) f->f'.length<=20->h' x=some (.ins C cW f')->h' l=some (.lst xs)->aY x h h'->Own H x h' R'->(∀a v,R a v->R' a v)->R' l n->D.nx σ h') :
  MS K (mj 1) (NJ (λxs H Q=>∃p ys,xs=[.ref p]/\(av K H p ys\/aE K H p ys)/\∀l,H l=none->Q (.ref l) (upd H l (.lst ys))) (Vx (EV K (mj 0) fld) MJ)) fld D σ h:=by
 refine⟨_,e0,m,C,dx,fs,_,rfl,hm,cl,na,lk,a,xs,rfl,.inl (av.of ha),λl nl=>?_⟩;have s1:af h (upd h l (.lst xs)):=aH (af.refl _) nl;have g1:upd h l (.lst xs) l=some (.lst xs):=au;obtain⟨R1,O1,i1,r1⟩:=O.nx (o:=.lst xs) n nl;have eN:=s1 _ _ hx;generalize upd h l (.lst xs)=v at s1 g1 O1 eN ⊢;refine⟨_,e1,x,C,cW,f,rfl,eN,cl,na,li,?_⟩;have ku:aY x v (upd v x (.ins C cW (aD fld (.ref l) f))):=aY.upd;exact q l _ _ R1 rfl (by rw[tu lx];exact hf) au (ku.sh eN g1) ((aY.of s1).trans ku) (O1.keep (lz (H:=v) (x:=x))) i1 r1
section
variable{t:aZ}{C CT:Addr}
def KQ(t:aZ)(C CT:Addr):Sp:=λvs H Q _=>∃m A S,vs=[.ref m]/\aU t C CT H m A S/\(S.kd = "row"\/S.kd = "name"\/S.kd = "none")/\S.ck.length<=4/\S.ov.length<=12/\
 ∀H' x A' lab,aU t C CT H' x A' S->jk lab x A'->af H H'->(∀b,bG x A' b->H b=none)->Q (.ref x) H'
theorem TV:bg ["self","other"] ["self"] (aQ Lc):=bu
theorem agp{f fI fT:Addr}{fd dI nO:aV}(F:aW K "twin" "Machine.twin" Lc f fd)(cM:gw K C)(cT:lC K CT)(gR:mg "list" = none)
  (mk:Mk K C fI) (GI:aw P w K mg base az 7 fI dI ["self","program","kind"] (Kb t C CT)) (BE:mg "Machine" = some (.ref C)) (b3:Binds K dI ["self","program","kind"] [])
  (GT:aw P w K mg base az 3 fT nO ["self"] (Tv CT)) (bT:Binds K nO ["self"] []) (mT:Meth K CT "twin" fT):aw P w K mg base az 9 f fd ["self"] (KQ t C CT):=by
 refine F.ok TV (λvs H Q E h=>?_) λaI A _ s H vs Q E hr h=>?_
 ·refine eV h λm A S aa _=>?_;clear h;subst aa;rfl
 ·obtain⟨m,A,S,aa,M,jF,h4,h12,q⟩:=h;subst aa;have pS:=hr.mono (show 3<=8 by decide)
  refine⟨_,ax (bZ (i:=1) TV.nd rfl (aR rfl) (qg mk GI hr rfl BE b3 .nil aS (ae (eR (ae (eR ag) ag)) (ae (a6 (pv 0) rfl) ag)))) (ax (dr (pv 1) (a6 (pv 0) rfl) rfl) (ax (dr (pv 1) (a6 (pv 0) rfl) rfl) (ax (dr (pv 1) (ji (N:=["tray"]) (idx:=[]) rfl (dN.of (by kernel_rfl)) (je (bX _)) (qf (a6 (pv 0) rfl)) (λ_ _ _ _=>de (i:=0) agA rfl (aR rfl) (.inr rfl)) (λ_ _ _ _=>jt) λ_ _ _ _=>jr (pv 0) cT.cl mT GT pS bT .nil aS) rfl)
   (ax (dr (pv 1) (jg rA rfl gR o7 (ae (a6 (pv 0) rfl) ag)) rfl) (ax (dr (pv 1) (jg rA rfl gR o7 (ae (a6 (pv 0) rfl) ag)) rfl) (ax (dr (pv 1) (ji (N:=["regs"]) (idx:=[]) rfl (dN.of (by kernel_rfl)) (je (bX _)) (qf (a6 (pv 0) rfl)) (λ_ _ _ _=>de (i:=0) agB rfl (aR rfl) (.inr rfl)) (λ_ _ _ _=>jt) λ_ _ _ _=>jg (Mj K) rfl gR o7 (ae (pv 0) ag)) rfl)
   (ax (dr (pv 1) (jg rA rfl gR o7 (ae (a6 (pv 0) rfl) ag)) rfl) (ax (dr (pv 1) (jg rA rfl gR o7 (ae (a6 (pv 0) rfl) ag)) rfl) (ax (dr (pv 1) (ji (N:=["comers"]) (idx:=[]) rfl (dN.of (by kernel_rfl)) (je (bX _)) (qf (a6 (pv 0) rfl)) (λ_ _ _ _=>de (i:=0) ad0 rfl (aR rfl) (.inr rfl)) (λ_ _ _ _=>jt) λ_ _ _ _=>jg (Mj K) rfl gR o7 (ae (pv 0) ag)) rfl)
   (aB (a8 (pv 1)))))))))))),?_⟩
  refine a9 (id M.obj) λdx fs hm G=>?_;refine⟨qc,λp0 n0=>⟨by show 1<=aP;decide,λp1 n1=>?_⟩⟩;have s1:af H (upd (upd H p0 (.tup [])) p1 (.tup [.ref p0])):=aH (aH (af.refl _) n0) n1;have gQ:upd (upd H p0 (.tup [])) p1 (.tup [.ref p0]) p1=some (.tup [.ref p0]):=au;have Gw:upd (upd H p0 (.tup [])) p1 (.tup [.ref p0]) p0=some (.tup []):=aH (af.refl _) n1 _ _ au;generalize upd (upd H p0 (.tup [])) p1 (.tup [.ref p0])=H1 at s1 gQ Gw ⊢;refine vF rfl (s1 _ _ hm) cM.cl cM.kind G.kind λx lh nx gc ne=>?_;have sb:af H1 (upd (upd H1 lh (.own x)) x (.ins C lh [])):=aH (aH (af.refl _) gc) (by rw[aj ne.symm];exact nx);have hxb:upd (upd H1 lh (.own x)) x (.ins C lh []) x=some (.ins C lh []):=au;refine oW x lh (.ref p1) ([[]]) S.kd rfl hxb ⟨p1,[.ref p0],rfl,sb _ _ gQ,.cons ⟨p0,[],rfl,sb _ _ Gw,.nil⟩ .nil⟩ agS jF λh0 A2 aqt M2 L2' ev k2 fr2=>⟨rfl,?_⟩;have pO:H x=none:=s1.free nx;have S0:af H h0:=λb o e=>k2.k b o (ba e pO) (sb _ _ (s1 b o e));refine a9 (id M2.obj) λcW f0 yj G0=>?_;obtain⟨R0,O0,r0⟩:∃R,Own H x h0 R/\R x 2:=⟨λa v=>a=x/\v=2,⟨⟨λ_=>2,λa v z=>z.2.symm⟩,λa v z e=>(by rw[z.1,yj]at e;cases e),λa v z=>.inl z.1,λb z=>S0.free z⟩,rfl,rfl⟩;have hf0:=G0.vX;have K0:aY x h0 h0:=⟨λb o _ e=>e,λb z=>z⟩;refine ar _ rfl (cY m C dx fs (g9 _ rfl (S0 _ _ hm) cM.cl cM.program G.program (vr rfl (iU x C cW f0 rfl yj cM.cl cM.program wb ?_))));obtain⟨f1,kg⟩:∃f,f=aD "program" (.ref A.pg:V) f0:=⟨_,rfl⟩;have ZS:f1.length<=20:=by rw[kg,tu (G0.program)];exact hf0
  rw[<-kg];have Oo:aY x h0 (upd h0 x (.ins C cW f1)):=aY.upd;have eN:upd h0 x (.ins C cW f1) x=some (.ins C cW f1):=au;have O1:=O0.keep (lz (H:=h0) (x:=x) (o:=.ins C cW f1));obtain⟨R1,O1,j1⟩:∃R,Own H x (upd h0 x (.ins C cW f1)) R/\∀a v,R0 a v->R a v:=⟨_,O1,λ_ _ z=>z⟩;have K1:aY x h0 (upd h0 x (.ins C cW f1)):=K0.trans Oo;generalize upd h0 x (.ins C cW f1)=h1 at Oo eN O1 K1 ⊢;have S1:af H h1:=λb o e=>K1.k b o (ba e pO) (S0 b o e);refine ar _ rfl (cY m C dx fs (g9 _ rfl (S1 _ _ hm) cM.cl cM.steps G.steps (vr rfl (iU x C cW f1 rfl eN cM.cl cM.steps wb ?_))));obtain⟨f2,jI⟩:∃f,f=aD "steps" (.ref A.st:V) f1:=⟨_,rfl⟩;have ZR:f2.length<=20:=by rw[jI,tu (aA (G0.steps) kg dk)];exact ZS
  rw[<-jI];have Om:aY x h1 (upd h1 x (.ins C cW f2)):=aY.upd;have lG:upd h1 x (.ins C cW f2) x=some (.ins C cW f2):=au;have O2:=O1.keep (lz (H:=h1) (x:=x) (o:=.ins C cW f2));obtain⟨R2,O2,j2⟩:∃R,Own H x (upd h1 x (.ins C cW f2)) R/\∀a v,R1 a v->R a v:=⟨_,O2,λ_ _ z=>z⟩;have K2:aY x h0 (upd h1 x (.ins C cW f2)):=K1.trans Om;generalize upd h1 x (.ins C cW f2)=h2 at Om lG O2 K2 ⊢;have S2:af H h2:=λb o e=>K2.k b o (ba e pO) (S0 b o e);have OI:=Paired.length M.ts;refine ar _ rfl (cY m C dx fs (g9 _ rfl (S2 _ _ hm) cM.cl cM.fh G.fh (c8 A.lt rfl ⟨_,av.of (S2 _ _ M.lt)⟩ ?_)));refine iW (n:=A.ts.length) (λi ys H'=>i<=A.ts.length/\∃ts:List (Addr×Addr×List Addr),ys=(ts.map λx=>V.ref x.1)/\ts.length=i/\af h2 H'/\Paired (FG CT S.kd H') ts (S.ck.take i)/\∃R,Own H x H' R/\(∀a v,R2 a v->R a v)/\∀j y,ts[j]?=some y->∀b∈y.1::y.2.1::y.2.2,R b (28+6*j)) ?_ ?_ ?_ ?_ ?_ ?_ ?_
  ·exact cO (c9 w8)
  ·exact⟨bX _,⟨[],rfl,rfl,af.refl _,.nil,R2,O2,λ_ _ z=>z,λj y z=>(by simp at z)⟩⟩
  ·rintro i ys H' ⟨_,ts,rfl,rfl,_⟩;rw[aX];exact aF _
  ·rintro i ys H' hi ⟨_,ts,_,_,s3,_⟩;exact eW _ _ (av.of (s3 _ _ (S2 _ _ M.lt))) (bb (by rw[aX];exact hi))
  ·rintro ys H' ⟨_,ts,_,_,s3,_⟩;exact ar _ (av.of (s3 _ _ (S2 _ _ M.lt))) (by rw[aX];exact aF _)
  ·rintro i ys H' hi ⟨_,ts,rfl,rfl,s3,sQ,R,oR,iR,rR⟩ z fb ⟨eH,da⟩;subst eH;have hz:=da _ (av.of (s3 _ _ (S2 _ _ M.lt)));have hk:S.ck[ts.length]?=some (S.ck[ts.length]'wf):=bb wf;refine ah (M.tX hk) λy hy T=>?_;rw[fw,hy]at hz;have wq:z=V.ref y.1:=(iz hz).symm;subst wq;have sT:af H fb:=S2.trans s3;have T2:FG CT S.kd fb y S.ck[ts.length]:=T.keep (λb _ o e=>sT b o e) λb xs e=>sT b _ e;refine iV (id T2.obj) λdy fy hay _ _ _ hmy _=>?_;dsimp only[jS,ij];rw[if_pos rfl];refine vr rfl (⟨y.1,dy,fy,rfl,hay,(hmy _ dk),(⟨y.1,S.kd,_,_,y.2.1,y.2.2,rfl,T2,(λH4 z q' qr T4 s4 fr4=>?_)⟩)⟩)
   obtain⟨R',o4,i4,n4⟩:=oR.XT (28+6*ts.length) (λb=>b∈z::q'::qr) (λb z=>s4.free z) fr4 (λb hb y=>by
    refine oE (T4.there b hb) λo e=>?_;rw[e]at y;cases y)
   refine⟨hi,⟨ts++[(z,q',qr)],by rw[km];rfl,by rw[cX];rfl,s3.trans s4,?_,R',o4,λa v z=>i4 a v (iR a v z),λj y hy b hb=>?_⟩⟩
   ·rw[lj,hk];exact nR (Paired.b8 sQ λ_ _ q=>q.keep (λb _ o e=>s4 b o e) λb xs e=>s4 b _ e) T4
   ·rcases y0 hy with hy | ⟨e1,e2⟩
    ·exact i4 _ _ (rR j y hy b hb)
    ·subst e1;subst e2;exact n4 b hb
  rintro ys Ak ⟨_,ts,rfl,sQ,FY,pR,Rc3,Oc3,ic3,N2⟩;rw[iE li]at pR;refine⟨by rw[aX];exact cO (c9 wu),λlt B'=>?_⟩;have t3:af Ak (upd Ak lt (.lst (ts.map λx=>V.ref x.1))):=aH (af.refl _) B';have Z7:upd Ak lt (.lst (ts.map λx=>V.ref x.1)) lt=some (.lst (ts.map λx=>V.ref x.1)):=au;refine aL (Oc3.nx (o:=.lst (ts.map λx=>V.ref x.1)) 4 B') λRv3 Ov3 Zg yc=>?_;generalize upd Ak lt (.lst (ts.map λx=>V.ref x.1))=v3 at t3 Z7 Ov3 ⊢;refine vr rfl (iU x C cW f2 rfl (t3 _ _ (FY _ _ lG)) cM.cl cM.fh wb ?_);obtain⟨f3,jn⟩:∃f,f=aD "trays" (.ref lt:V) f2:=⟨_,rfl⟩;have ZQ:f3.length<=20:=by rw[jn,tu (aA (aA (G0.fh) kg dk) jI dk)];exact ZR
  rw[<-jn];have Ol:aY x v3 (upd v3 x (.ins C cW f3)):=aY.upd;have Gi:upd v3 x (.ins C cW f3) x=some (.ins C cW f3):=au;obtain⟨R3,O3,j3,q3,N7⟩:∃R,Own H x (upd v3 x (.ins C cW f3)) R/\(∀a v,R2 a v->R a v)/\(∀a v,Rv3 a v->R a v)/\(∀a v,Rc3 a v->R a v):=⟨_,Ov3.keep (lz (H:=v3) (x:=x) (o:=.ins C cW f3)),λ_ _ z=>Zg _ _ (ic3 _ _ z),λ_ _ z=>z,λ_ _ z=>Zg _ _ z⟩;have K3:aY x h0 (upd v3 x (.ins C cW f3)):=K2.trans ((aY.of (FY.trans t3)).trans Ol);generalize upd v3 x (.ins C cW f3)=h3 at Ol Gi O3 K3 ⊢;have S3:af H h3:=λb o e=>K3.k b o (ba e pO) (S0 b o e);refine DU 6 rfl rfl (S3 _ _ hm) cM.cl cM.places G.places (S3 _ _ M.pl) Gi ZQ O3 (aA (aA (aA (G0.places) kg dk) jI dk) jn dk) λpl h4 f4 R4 ke Pa wt Pp k4 O4 j4 q4=>?_;have K4:=K3.trans k4;have S4:af H h4:=λb o e=>K4.k b o (ba e pO) (S0 b o e);refine DU 8 rfl rfl (S4 _ _ hm) cM.cl cM.counts G.counts (S4 _ _ M.ct) wt Pa O4 (aA (aA (aA (aA (G0.counts) kg dk) jI dk) jn dk) ke dk) λct h5 f5 R5 lg OZ OB gct k5 O5 j5 q5=>?_;have K5:=K4.trans k5;have S5:af H h5:=λb o e=>K5.k b o (ba e pO) (S0 b o e);have ao0:=Paired.length M.rs;refine ar _ rfl (cY m C dx fs (g9 _ rfl (S5 _ _ hm) cM.cl cM.dJ G.dJ (c8 A.rg rfl ⟨_,av.of (S5 _ _ M.rg)⟩ ?_)));refine iW (n:=A.rs.length) (λi ys H'=>i<=A.rs.length/\∃rs:List Addr,ys=rs.map V.ref/\rs.length=i/\af h5 H'/\Paired (λa (k:Ck)=>H' a=some (.lst (k.rg.map V.int))) rs (S.ck.take i)/\∃R,Own H x H' R/\(∀a v,R5 a v->R a v)/\∀(j:Nat) a,rs[j]?=some a->R a (24+6*j)) ?_ ?_ ?_ ?_ ?_ ?_ ?_
  ·exact cO (c9 w8)
  ·exact⟨bX _,⟨[],rfl,rfl,af.refl _,.nil,R5,O5,λ_ _ z=>z,λj y z=>(by simp at z)⟩⟩
  ·rintro i ys H' ⟨_,rs,rfl,rfl,_⟩;rw[aX];exact aF _
  ·rintro i ys H' hi ⟨_,rs,_,_,s3,_⟩;exact eW _ _ (av.of (s3 _ _ (S5 _ _ M.rg))) (bb (by rw[aX];exact hi))
  ·rintro ys H' ⟨_,rs,_,_,s3,_⟩;exact ar _ (av.of (s3 _ _ (S5 _ _ M.rg))) (by rw[aX];exact aF _)
  ·rintro i ys H' hi ⟨_,rs,rfl,rfl,s3,oH,R,oR,iR,rR⟩ z fb ⟨eH,da⟩;subst eH;have hz:=da _ (av.of (s3 _ _ (S5 _ _ M.rg)));have hk:S.ck[rs.length]?=some (S.ck[rs.length]'wf):=bb wf;refine ah (tm M.rs hk) λy hy Co=>?_;rw[fw,hy]at hz;have wq:z=V.ref y:=(iz hz).symm;subst wq;dsimp only[jS,ij];rw[if_pos rfl];refine vr rfl ⟨y,⟨_,rfl,.inl (av.of (s3 _ _ (S5 _ _ Co))),λl nl=>?_⟩⟩;generalize S.ck[rs.length]'wf=k at hk Co;have s4:=aH (o:=.lst (k.rg.map V.int)) (af.refl fb) nl;refine aL (oR.nx (o:=.lst (k.rg.map V.int)) (24+6*rs.length) nl) λR' o4 i4 n4=>?_;refine⟨hi,⟨rs++[l],by rw[km];rfl,by rw[cX];rfl,s3.trans s4,?_,R',o4,λa v z=>i4 a v (iR a v z),λj y hy=>?_⟩⟩
   ·rw[lj,hk];exact nR (Paired.b8 oH λ_ _ q=>s4 _ _ q) au
   ·rcases y0 hy with hy | ⟨e1,e2⟩
    ·exact i4 _ _ (rR j y hy)
    ·subst e1;subst e2;exact n4
  rintro ys GZ ⟨_,yd,rfl,aqe,FX,Xf,Rc6,Oc6,ic6,Yq⟩;rw[iE li]at Xf;refine⟨by rw[aX];exact cO (c9 wu),λrg B9=>?_⟩;have t6:af GZ (upd GZ rg (.lst (yd.map V.ref))):=aH (af.refl _) B9;have Z6:upd GZ rg (.lst (yd.map V.ref)) rg=some (.lst (yd.map V.ref)):=au;refine aL (Oc6.nx (o:=.lst (yd.map V.ref)) 10 B9) λRv6 Ov6 Zf Yn=>?_;generalize upd GZ rg (.lst (yd.map V.ref))=v6 at t6 Z6 Ov6 ⊢;refine vr rfl (iU x C cW f5 rfl (t6 _ _ (FX _ _ OB)) cM.cl cM.dJ wb ?_);obtain⟨f6,jm⟩:∃f,f=aD "regs" (.ref rg:V) f5:=⟨_,rfl⟩;have ZP:f6.length<=20:=by rw[jm,tu (aA (aA (aA (aA (aA (G0.dJ) kg dk) jI dk) jn dk) ke dk) lg dk)];exact OZ
  rw[<-jm];have Oj:aY x v6 (upd v6 x (.ins C cW f6)):=aY.upd;have Gh:upd v6 x (.ins C cW f6) x=some (.ins C cW f6):=au;obtain⟨R6,O6,j6,q6,YD⟩:∃R,Own H x (upd v6 x (.ins C cW f6)) R/\(∀a v,R5 a v->R a v)/\(∀a v,Rv6 a v->R a v)/\(∀a v,Rc6 a v->R a v):=⟨_,Ov6.keep (lz (H:=v6) (x:=x) (o:=.ins C cW f6)),λ_ _ z=>Zf _ _ (ic6 _ _ z),λ_ _ z=>z,λ_ _ z=>Zf _ _ z⟩;have K6:aY x h0 (upd v6 x (.ins C cW f6)):=K5.trans ((aY.of (FX.trans t6)).trans Oj);generalize upd v6 x (.ins C cW f6)=h6 at Oj Gh O6 K6 ⊢;have S6:af H h6:=λb o e=>K6.k b o (ba e pO) (S0 b o e);refine DU 12 rfl rfl (S6 _ _ hm) cM.cl cM.cells G.cells (S6 _ _ M.ce) Gh ZP O6 (aA (aA (aA (aA (aA (aA (G0.cells) kg dk) jI dk) jn dk) ke dk) lg dk) jm dk) λce h7 f7 R7 jb ZO Zm gce k7 O7 j7 q7=>?_;have K7:=K6.trans k7;have S7:af H h7:=λb o e=>K7.k b o (ba e pO) (S0 b o e);refine ah (id M.ac) λacs apg aph=>?_;refine DU 14 rfl rfl (S7 _ _ hm) cM.cl cM.iB G.iB (S7 _ _ apg) Zm ZO O7 (aA (aA (aA (aA (aA (aA (aA (G0.iB) kg dk) jI dk) jn dk) ke dk) lg dk) jm dk) jb dk) λac h8 f8 R8 iP ZN OA gac k8 O8 j8 q8=>?_;have K8:=K7.trans k8;have S8:af H h8:=λb o e=>K8.k b o (ba e pO) (S0 b o e);have Xr:=Paired.length M.cs;refine ar _ rfl (cY m C dx fs (g9 _ rfl (S8 _ _ hm) cM.cl cM.jN G.jN (c8 A.cm rfl ⟨_,av.of (S8 _ _ M.cm)⟩ ?_)));refine iW (n:=A.cs.length) (λi ys H'=>i<=A.cs.length/\∃rs:List Addr,ys=rs.map V.ref/\rs.length=i/\af h8 H'/\Paired (λa (k:List Int)=>H' a=some (.lst (k.map V.int))) rs (S.ov.take i)/\∃R,Own H x H' R/\(∀a v,R8 a v->R a v)/\∀(j:Nat) a,rs[j]?=some a->R a (26+6*j)) ?_ ?_ ?_ ?_ ?_ ?_ ?_
  ·exact cO (c9 w8)
  ·exact⟨bX _,⟨[],rfl,rfl,af.refl _,.nil,R8,O8,λ_ _ z=>z,λj y z=>(by simp at z)⟩⟩
  ·rintro i ys H' ⟨_,rs,rfl,rfl,_⟩;rw[aX];exact aF _
  ·rintro i ys H' hi ⟨_,rs,_,_,s3,_⟩;exact eW _ _ (av.of (s3 _ _ (S8 _ _ M.cm))) (bb (by rw[aX];exact hi))
  ·rintro ys H' ⟨_,rs,_,_,s3,_⟩;exact ar _ (av.of (s3 _ _ (S8 _ _ M.cm))) (by rw[aX];exact aF _)
  ·rintro i ys H' hi ⟨_,rs,rfl,rfl,s3,oH,R,oR,iR,rR⟩ z fb ⟨eH,da⟩;subst eH;have hz:=da _ (av.of (s3 _ _ (S8 _ _ M.cm)));have hk:S.ov[rs.length]?=some (S.ov[rs.length]'wf):=bb wf;refine ah (tm M.cs hk) λy hy Co=>?_;rw[fw,hy]at hz;have wq:z=V.ref y:=(iz hz).symm;subst wq;dsimp only[jS,ij];rw[if_pos rfl];refine vr rfl ⟨y,⟨_,rfl,.inl (av.of (s3 _ _ (S8 _ _ Co))),λl nl=>?_⟩⟩;generalize S.ov[rs.length]'wf=k at hk Co;have s4:=aH (o:=.lst (k.map V.int)) (af.refl fb) nl;refine aL (oR.nx (o:=.lst (k.map V.int)) (26+6*rs.length) nl) λR' o4 i4 n4=>?_;refine⟨hi,⟨rs++[l],by rw[km];rfl,by rw[cX];rfl,s3.trans s4,?_,R',o4,λa v z=>i4 a v (iR a v z),λj y hy=>?_⟩⟩
   ·rw[lj,hk];exact nR (Paired.b8 oH λ_ _ q=>s4 _ _ q) au
   ·rcases y0 hy with hy | ⟨e1,e2⟩
    ·exact i4 _ _ (rR j y hy)
    ·subst e1;subst e2;exact n4
  rintro ys GV ⟨_,sU,rfl,aqf,FV,Xg,Rc9,Oc9,ic9,Yp⟩;rw[iE li]at Xg;refine⟨by rw[aX];exact cO (c9 wu),λcm Cc=>?_⟩;have t9:af GV (upd GV cm (.lst (sU.map V.ref))):=aH (af.refl _) Cc;have Z8:upd GV cm (.lst (sU.map V.ref)) cm=some (.lst (sU.map V.ref)):=au;refine aL (Oc9.nx (o:=.lst (sU.map V.ref)) 16 Cc) λRv9 Ov9 Ze Ym=>?_;generalize upd GV cm (.lst (sU.map V.ref))=v9 at t9 Z8 Ov9 ⊢;refine vr rfl (iU x C cW f8 rfl (t9 _ _ (FV _ _ OA)) cM.cl cM.jN wb ?_);obtain⟨f9,gY⟩:∃f,f=aD "comers" (.ref cm:V) f8:=⟨_,rfl⟩;have ZM:f9.length<=20:=by rw[gY,tu (aA (aA (aA (aA (aA (aA (aA (aA (G0.jN) kg dk) jI dk) jn dk) ke dk) lg dk) jm dk) jb dk) iP dk)];exact ZN
  rw[<-gY];have Oi:aY x v9 (upd v9 x (.ins C cW f9)):=aY.upd;have Zl:upd v9 x (.ins C cW f9) x=some (.ins C cW f9):=au;obtain⟨R9,O9,j9,q9,YC⟩:∃R,Own H x (upd v9 x (.ins C cW f9)) R/\(∀a v,R8 a v->R a v)/\(∀a v,Rv9 a v->R a v)/\(∀a v,Rc9 a v->R a v):=⟨_,Ov9.keep (lz (H:=v9) (x:=x) (o:=.ins C cW f9)),λ_ _ z=>Ze _ _ (ic9 _ _ z),λ_ _ z=>z,λ_ _ z=>Ze _ _ z⟩;have K9:aY x h0 (upd v9 x (.ins C cW f9)):=K8.trans ((aY.of (FV.trans t9)).trans Oi);generalize upd v9 x (.ins C cW f9)=h9 at Oi Zl O9 K9 ⊢;have S9:af H h9:=λb o e=>K9.k b o (ba e pO) (S0 b o e);refine vr rfl ?_;have n9:aY x h9 h9:=⟨λb o _ e=>e,λb z=>z⟩;have J9:∀a v,R9 a v->R9 a v:=λ_ _ z=>z;have m9:aY x v9 h9:=Oi.trans n9;have y9:=(FV.trans t9) _ _ OA;have n8:aY x h8 h9:=(aY.of (FV.trans t9)).trans m9;have J8:∀a v,R8 a v->R9 a v:=λa v z=>J9 a v (j9 a v z);have n7:=k8.trans n8;have J7:∀a v,R7 a v->R9 a v:=λa v z=>J8 a v (j8 a v z);have n6:=k7.trans n7;have J6:∀a v,R6 a v->R9 a v:=λa v z=>J7 a v (j7 a v z);have m6:aY x v6 h9:=Oj.trans n6;have y6:=(FX.trans t6) _ _ OB;have n5:aY x h5 h9:=(aY.of (FX.trans t6)).trans m6;have J5:∀a v,R5 a v->R9 a v:=λa v z=>J6 a v (j6 a v z);have n4:=k5.trans n5;have J4:∀a v,R4 a v->R9 a v:=λa v z=>J5 a v (j5 a v z);have n3:=k4.trans n4;have J3:∀a v,R3 a v->R9 a v:=λa v z=>J4 a v (j4 a v z);have m3:aY x v3 h9:=Ol.trans n3;have y3:=(FY.trans t3) _ _ lG;have n2:aY x h2 h9:=(aY.of (FY.trans t3)).trans m3;have J2:∀a v,R2 a v->R9 a v:=λa v z=>J3 a v (j3 a v z);have n1:aY x h1 h9:=Om.trans n2;have J1:∀a v,R1 a v->R9 a v:=λa v z=>J2 a v (j2 a v z);have n0:aY x h0 h9:=Oo.trans n1;have J0:∀a v,R0 a v->R9 a v:=λa v z=>J1 a v (j1 a v z);have nn1:∀y∈jv,y≠("program" : Str):=by unfold jv;decide +kernel
  have nn2:∀y∈jv,y≠("steps" : Str):=by unfold jv;decide +kernel
  have nn3:∀y∈jv,y≠("trays" : Str):=by unfold jv;decide +kernel
  have nn4:∀y∈jv,y≠("places" : Str):=by unfold jv;decide +kernel
  have nn5:∀y∈jv,y≠("counts" : Str):=by unfold jv;decide +kernel
  have nn6:∀y∈jv,y≠("regs" : Str):=by unfold jv;decide +kernel
  have nn7:∀y∈jv,y≠("cells" : Str):=by unfold jv;decide +kernel
  have nn8:∀y∈jv,y≠("acts" : Str):=by unfold jv;decide +kernel
  have nn9:∀y∈jv,y≠("comers" : Str):=by unfold jv;decide +kernel
  refine oE O9.l λlab il=>?_;have lx:=il _ _ (J0 _ _ r0);refine ah (id M.st) λsvs hs1 mQ=>?_;have kt:∀b xs,H b=some (.tup xs)->h9 b=some (.tup xs):=λb xs e=>S9 _ _ e
  have M9:aU t C CT h9 x ⟨lt,ts,A.pg,A.st,pl,ct,rg,yd,ce,ac,cm,sU⟩ S:=by
   refine⟨⟨cW,f9,Zl,?_⟩,m3.sh y3 Z7,?_,M.pg.keep kt,⟨svs,kt _ _ hs1,Paired.b8 mQ λ_ _ q=>q.keep kt λb C dx fs e _=>S9 _ _ e⟩,n4.sh wt Pp,n5.sh OB gct,m6.sh y6 Z6,Paired.b8 Xf λa k q=>m6.sh y6 (t6 _ _ q),n7.sh Zm gce,⟨acs,n8.sh OA gac,Paired.b8 aph λ_ _ q=>q.keep kt⟩,m9.sh y9 Z8,Paired.b8 Xg λa k q=>m9.sh y9 (t9 _ _ q)⟩
   ·exact⟨aA (aA (aA (aA (aA (aA (jw jn) ke dk) lg dk) jm dk) jb dk) iP dk) gY dk,aA (aA (aA (aA (aA (aA (aA (aA (jw kg) jI dk) jn dk) ke dk) lg dk) jm dk) jb dk) iP dk) gY dk,aA (aA (aA (aA (aA (aA (aA (aA (aA (G0.kind) kg dk) jI dk) jn dk) ke dk) lg dk) jm dk) jb dk) iP dk) gY dk,aA (aA (aA (aA (aA (aA (aA (jw jI) jn dk) ke dk) lg dk) jm dk) jb dk) iP dk) gY dk,aA (aA (aA (aA (aA (jw ke) lg dk) jm dk) jb dk) iP dk) gY dk,aA (aA (aA (aA (jw lg) jm dk) jb dk) iP dk) gY dk,aA (aA (aA (jw jm) jb dk) iP dk) gY dk,aA (aA (jw jb) iP dk) gY dk,aA (jw iP) gY dk,jw gY,λy hy=>aA (aA (aA (aA (aA (aA (aA (aA (aA (G0.ms y hy) kg (nn1 y hy)) jI (nn2 y hy)) jn (nn3 y hy)) ke (nn4 y hy)) lg (nn5 y hy)) jm (nn6 y hy)) jb (nn7 y hy)) iP (nn8 y hy)) gY (nn9 y hy),ZM⟩
   ·refine gh pR λj y k hy _ T=>T.keep (λb hb o e=>m3.k b o (λz=>?_) (t3 _ _ e)) λb xs e=>m3.tup y3 _ _ (t3 _ _ e);have:=il _ _ (J3 _ _ (N7 _ _ (N2 j y hy b hb)));rw[z,lx]at this;exact wk
  have L9:jk lab x ⟨lt,ts,A.pg,A.st,pl,ct,rg,yd,ce,ac,cm,sU⟩:=⟨lx,il _ _ (J3 _ _ (q3 _ _ yc)),il _ _ (J4 _ _ (q4)),il _ _ (J5 _ _ (q5)),il _ _ (J6 _ _ (q6 _ _ Yn)),il _ _ (J7 _ _ (q7)),il _ _ (J8 _ _ (q8)),il _ _ (q9 _ _ Ym),λi a z=>il _ _ (J6 _ _ (YD _ _ (Yq i a z))),λi a z=>il _ _ (YC _ _ (Yp i a z)),λi y z b hb=>il _ _ (J3 _ _ (N7 _ _ (N2 i y z b hb)))⟩
  have fr:∀a v,R9 a v->H a=none:=λa v z=>by
   rcases O9.f a v z with e | e
   ·rw[e];exact pO
   ·exact e
  refine q h9 x _ lab M9 L9 S9 λb hb=>?_;cases hb with
  | m=>exact pO
  | lt=>exact fr _ _ (J3 _ _ (q3 _ _ yc))
  | pl=>exact fr _ _ (J4 _ _ (q4))
  | ct=>exact fr _ _ (J5 _ _ (q5))
  | rg=>exact fr _ _ (J6 _ _ (q6 _ _ Yn))
  | ce=>exact fr _ _ (J7 _ _ (q7))
  | ac=>exact fr _ _ (J8 _ _ (q8))
  | cm=>exact fr _ _ (q9 _ _ Ym)
  | rs h=>
   refine oE (wH h) λj hj=>?_;exact fr _ _ (J6 _ _ (YD _ _ (Yq j _ hj)))
  | cs h=>
   refine oE (wH h) λj hj=>?_;exact fr _ _ (YC _ _ (Yp j _ hj))
  | ts h h2=>
   refine oE (wH h) λj hj=>?_;exact fr _ _ (J3 _ _ (N7 _ _ (N2 j _ hj _ h2)))
end
theorem Ub:(["_law_one_here"]:List Str).Nodup:=dk
theorem RN{S:Mc}(w:mz S):(iL S).length<=52:=by
 have h1:=JM S S.ck.length;have h2:=DO S.kd S.ck.zipIdx;have h3:=w.four;unfold iL iJ;rw[cX];rw[P']at h2;lia
theorem Rm{K:PySem.W.Frag}{H:Hp}{l:Addr}{vs:List V}{T:Mc}{σ:L2.St}{Kk:List V->Hp->Prop}(hl:H l=some (.lst vs))(hv:Paired (gG H) vs (iL T))(hb:vs.length<=1000)(q:∀ys,ys.length<=1000->Paired (gG H) ys (iJ T)->Kk ys H) :
  BD (zW K l) (ij 0) (LW (sr XQ (sr (zy K) (mj 0) (tC (.int 0))) (tC (.str "carry")))) (mj 0) (none::σ) H Kk:=by
 refine iW (n:=vs.length) (λi ys H'=>i<=vs.length/\H'=H/\ys.length<=i/\Paired (gG H) ys (((iL T).take i).filter λmv=>decide (mv.1=("carry" : Str)))) ?_ ?_ ?_ ?_ ?_ ?_ ?_
 ·exact cO (c9 w0)
 ·exact⟨(bX _),rfl,(aF _),.nil⟩
 ·rintro i ys H' ⟨_,_,e,_⟩;exact e
 ·rintro i ys H' hi ⟨_,rfl,_⟩;exact eW _ _ (av.of hl) (bb hi)
 ·rintro ys H' ⟨_,rfl,_⟩;exact ar _ (av.of hl) (aF _)
 ·rintro i ys H' hi ⟨_,rfl,e0,e⟩ z fb ⟨eH,da⟩;subst eH;have hz:=da _ (av.of hl);refine ah (uS hv hz) λmv oJ aa=>?_;refine ah aa λp aa hp=>?_;subst aa;have et:(iL T).take (i+1)=(iL T).take i++[mv]:=by rw[lj,oJ];rfl
  rw[et,Dd];refine kQ (v:=.str mv.1) (j:=0) rfl hp rfl ⟨rfl,⟨_,rfl,cx (λh=>?_) λh=>?_⟩⟩
  ·have h':mv.1 = "carry":=by injection h
   rw[uO,if_pos (decide_eq_true h')];exact vr rfl (⟨hi,rfl,(by rw[cX];simp only[fG,List.length_nil];lia),(nR e ⟨p,rfl,hp⟩)⟩)
  ·have h':¬mv.1 = "carry":=λz=>h (by rw[z]);rw[uO,if_neg (by rw[decide_eq_false h'];decide)];exact⟨hi,rfl,li,(by rw[List.filter_nil,sY];exact e)⟩
 rintro ys H' ⟨_,rfl,e0,e⟩;rw[iE (by rw[Paired.length hv];exact aF _),adj]at e;exact q ys wj e
section
variable{t:aZ}{C CT PT jR:Addr}
def RD(t:aZ)(C CT PT:Addr):Sp:=λvs H Q _=>∃m A S lab n,vs=[.ref m]/\aU t C CT H m A S/\jk lab m A/\gK n S/\n<64/\xH S/\(S.kd = "row"\/S.kd = "name"\/S.kd = "none")/\cJ PT LP LQ H/\
 ∀H',aM (bG m A) H H'->cJ PT LP LQ H'->Q (.bl true) H'
theorem AS:bg ["_law_machine","_law_other","_law_made_here","_law_move","_law_carries"] zLa (aQ Jx):=bu
theorem adV{f fT fS fM fD fL:Addr}{fd dT dS dM dD dL:aV}(F:aW K "_law_settles" "_law_settles" Jx f fd)(cM:gw K C)(ao5:mg "isinstance" = none)(gR:mg "list" = none)
  (GT:aw P w K mg base az 9 fT dT ["self"] (KQ t C CT)) (bT:Binds K dT ["self"] []) (mT:Meth K C "twin" fT)
  (GS:aw P w K mg base az 8 fS dS ["self"] (Ss t C CT PT)) (bS:Binds K dS ["self"] []) (mS:Meth K C "settle" fS)
  (GM:aw P w K mg base az 4 fM dM ["self"] (Bd t C CT PT)) (bM:Binds K dM ["self"] []) (mM:Meth K C "moves" fM)
  (GD:aw P w K mg base (dg P w) 7 fD dD ["self","move"] (EY t C CT PT jR)) (bD:Binds K dD ["self","move"] []) (mD:Meth K C "do" fD)
  (GL:aw P w K mg base az 5 fL dL zLa (Jn K t C CT PT)) (kL:PySem.W.keepIn K (.ref fL)=true) (bL:Binds K dL zLa []) (mL:mg "_law_stand" = some (.ref fL)) :
  aw P w K mg base az 10 f fd zLa (RD t C CT PT):=by
 have CZ:=xq GD;refine F.ok AS (λvs H Q E h=>?_) λaI A _ s H vs Q E hr h=>?_
 ·obtain⟨m,A,S,lab,n,aa,_⟩:=h;subst aa;rfl
 ·obtain⟨m,A,S,lab,n,aa,M,L,W,hn,CD,jF,hL,q⟩:=h;subst aa;have hu:=hr.units;have nN:=hr.mono (show 4<=9 by decide);have uv:=hr.mono (show 5<=9 by decide);have OL:=hr.mono (show 7<=9 by decide);have Gq:=hr.mono (show 8<=9 by decide)
  refine⟨_,ax (bZ (i:=1) AS.nd rfl (aR rfl) (jr (pv 0) cM.cl mT GT hr bT .nil aS)) (ax (bZ (i:=2) AS.nd rfl (aR rfl) (jr (pv 0) cM.cl mS GS Gq bS .nil aS)) (ax (cF (nk (iX (cA jK rfl ao5 jc (ae (pv 2) (ae (pf (v:=.ty "list") rfl gR o7 rfl) ag))))) (aB (a8 kG)) cU) (ax (rQ uP rfl (qf (pv 2)) (de (i:=3) AS.nd rfl (aR rfl)) (ax (Q7 (i:=4) (N:=["_law_one_here"]) (idx:=[]) AS.nd rfl rfl rfl (dN.of (by kernel_rfl)) (je (bX _)) (qf (jr (pv 1) cM.cl mM GM nN bM .nil aS)) (λ_ _ _ _=>de (i:=0) Ub rfl (aR rfl) (.inr rfl)) (λ_ _ _ _=>D1 (cw eC (aT (Mn K) (pv 0) ay) bw (bU _))) λ_ _ _ _=>pv 0)
    (ax (cF (PW.pt (pw_or (cw (agg hu) (pv 4) (dW ag) (bU _)) (pw_or1 (cw (xp hu) (pv 3) (aT cI (pv 4) ay) (bU _))))) (aB (a8 kG)) cU) (aB (dQ (iK (pv 1) cM.cl mD CZ OL bD .nil aS (ae (pv 3) ag)))))))
   (ax (cF (PW.pt (pw_or (cw (JD hu) (ji (N:=["_law_one_here"]) (idx:=[]) rfl (dN.of (by kernel_rfl)) (je (bX _)) (qf (jr (pv 0) cM.cl mM GM nN bM .nil aS)) (λ_ _ _ _=>de (i:=0) Ub rfl (aR rfl) (.inr rfl)) (λ_ _ _ _=>D1 (cw eC (aT (Mn K) (pv 0) ay) bw (bU _))) λ_ _ _ _=>pv 0) (dW ag) (bU _)) (pw_or1 (cw (JD hu) (jr (pv 0) cM.cl mS GS Gq bS .nil aS) (dW ag) (bU _))))) (aB (a8 kG)) cU)
   (aB (a8 (tH (Ln hu) (dF GL uv rfl mL kL bL .nil aS (ae (pv 0) ag)) (dF GL uv rfl mL kL bL .nil aS (ae (pv 1) ag)) (bU _)))))))),?_⟩
  refine a9 (id M.obj) λdx fs hm G=>?_;have kX:=W.wf.ov;refine vM rfl hm (G.ms _ dk) (⟨m,A,S,rfl,M,jF,W.wf.four,w6,(λH1 x A1 aov M1 L1 s1 fr=>?_)⟩);have PD:=M.same s1;refine a9 (id PD.obj) λlh gX iy G1=>?_;have hw:=ahO W;refine vM rfl iy (G1.ms _ dk) (⟨m,A,S,lab,n,rfl,PD,L,W,li,(jd hL s1),(λH2 l ws ms S' n' hC Al W' qR M2 k2 kZ nl hl pP=>?_)⟩);have dj:=IA M fr;have X2:aU t C CT H2 x A1 S:=M1.other PD k2 dj;have hT:tyName H2 (.ref l)=some "list":=by unfold tyName;simp only[hl]
  have dj':∀b,bG m A b->¬bG x A1 b:=λb h1 h2=>dj b h2 h1
  have nx:¬bG x A1 l:=λz=>by
   refine ah (M1.vw z) λo e _=>?_;rw[nl]at e;cases e
  refine vr rfl (cY _ _ _ _ (gD _ rfl (nF hT) rfl (nz hT qc) (ar _ rfl (fk ?_))));refine ar _ rfl (c8 l rfl ⟨_,av.of hl⟩ (Tc (xs:=ws) (λi σ H'=>∃T y z,σ=[some (.ref m),some (.ref x),some (.ref l),y,z]/\aU t C CT H' x A1 T/\kJ S (ms.take i) T/\gK (n+i) T/\i+ig T<=ig S/\aU t C CT H' m A S'/\aM (bG x A1) H2 H'/\cJ PT LP LQ H'/\H' l=some (.lst ws)/\Paired (gG H') ws ms) ⟨S,none,none,rfl,X2,.nil S,W,li,M2,aM.refl _,kZ,hl,pP⟩ (λi σ H' _ ⟨_,_,_,_,_,_,_,_,_,_,_,h,_⟩=>av.of h) ?_ ?_))
  ·rintro i v σ H3 hv ⟨T,y3,y4,rfl,X3,G5,W3,yk,M3,k3,oN,ZJ,Nl⟩;refine ah (uS Nl hv) λmv oJ aa=>?_;refine ah aa λp aa hp=>?_;subst aa;refine oA (ajV hC oJ G5) λaa hT4=>?_;refine oE aa λr i7=>?_;refine a9 (id X3.obj) λuF i6 Gi G3=>?_;refine vM rfl Gi (G3.ms _ dk) (jh x A1 T rfl X3 W3.wf oN λH4 l4 NX k4 Pm n4 wz Cp=>?_);refine c8 l4 rfl ⟨_,av.of wz⟩ ?_;have Pf:NX.length<=1000:=by rw[Paired.length Cp];have:=RN W3.wf;exact w4
   refine Rm wz Cp Pf λys Oy oF=>⟨cO (c9 w0),λlc Oa=>?_⟩;have s5:af H4 (upd H4 lc (.lst ys)):=aH (af.refl _) Oa;have Ah:upd H4 lc (.lst ys) lc=some (.lst ys):=au;generalize upd H4 lc (.lst ys)=H5 at s5 Ah ⊢;refine c8 _ rfl qc λle Ca=>?_;have s6:af H5 (upd H5 le (.lst [])):=aH (af.refl _) Ca;have hle:upd H5 le (.lst []) le=some (.lst []):=au;generalize upd H5 le (.lst [])=H6 at s6 hle ⊢;have qL:=s5.trans s6;rw[i7]at oF
   obtain⟨v0,NW,rfl⟩:∃v0 NW,ys=v0::NW:=by
    cases oF with
    | cons a b=>exact⟨_,_,rfl⟩
   obtain⟨p0,rfl,Gw⟩:gG H4 v0 mv:=by
    cases oF with
    | cons a b=>exact a
   refine sv lc le (gD _ rfl rfl (s6 _ _ Ah) hle (ar _ rfl ?_));rw[decide_eq_false (show ¬V.ref p0::NW=[] from λz=>by cases z)];have iD:mv∈iJ T:=by rw[i7];exact dE
   have vK:=Qv iD;have Zy:=qL _ _ (k4.nu _ _ hp);have aoT:=qL _ _ Gw;refine fk (vr rfl (vl1 (v:=.ref p0) (j:=0) rfl (s6 _ _ Ah) rfl (y7 (Br Zy) (Br aoT) (Dz (yZ vK)) (ar _ rfl (fk ?_)))));have X6:=(X3.gm k4).same qL;refine a9 (id X6.obj) λdx6 CJ Gh G6=>?_;have yy:=jd Pm qL;refine vM rfl Gh (G6.ms _ dk) (vr rfl (⟨x,A1,T,p,_,aov,rfl,X6,L1,W3.wf,(W3.NM li),yy,Zy,(Lr _),(⟨?_,(λz0 e=>(by rw[<-xg e];exact yZ vK)),(λz0 e zM H7 X7 k7 Pl=>?_),(λz _ _ _=>absurd vK (z mv rfl))⟩)⟩))
   ·refine eV (AN iD) λc k i aa _=>?_;subst aa;simp[lS]
   have CO:=xg e;subst CO;have Cf:aM gL H3 H6:=k4.trans (aM.of qL);have kt7:=k7.tup λb z=>X6.BH b z;have M7:=((M3.gm k4).same qL).other X6 k7 dj';have yt:=k7.k _ _ nx (λps z=>by cases z) (Cf.ml ZJ);have Zo:=Ru X3.Wv iD;exact sv (jx T mv) _ (⟨_,rfl,X7,hT4,(show gK (n+i+1) _ from Kt W3 li vK),li,M7,((k3.trans (Cf.mono λb z=>z.elim)).trans k7),Pl,yt,(Paired.b8 Nl λ_ _ z=>gG.keep kt7 (gG.keep Cf.nu z))⟩)
  ·rintro σ H3 ⟨T,y3,y4,rfl,X3,G5,W3,yk,M3,k3,oN,ZJ,Nl⟩;rw[iE (by rw[Paired.length pP];exact aF _)]at G5;have eT:=Tp G5 hC;subst eT;refine a9 (id M3.obj) λuF i6 jY G3=>?_;refine vM rfl jY (G3.ms _ dk) (jh m A T rfl M3 W'.wf oN λH4 l4 NX k4 Pm n4 wz Cp=>?_);refine c8 l4 rfl ⟨_,av.of wz⟩ ?_;have Pf:NX.length<=1000:=by rw[Paired.length Cp];have:=RN W'.wf;exact w4
   refine Rm wz Cp Pf λys Oy oF=>⟨cO (c9 w0),λlc Oa=>?_⟩;have s5:af H4 (upd H4 lc (.lst ys)):=aH (af.refl _) Oa;have Ah:upd H4 lc (.lst ys) lc=some (.lst ys):=au;generalize upd H4 lc (.lst ys)=H5 at s5 Ah ⊢;refine⟨qc,λle Ca=>?_⟩;have s6:af H5 (upd H5 le (.lst [])):=aH (af.refl _) Ca;have hle:upd H5 le (.lst []) le=some (.lst []):=au;generalize upd H5 le (.lst [])=H6 at s6 hle ⊢;have qL:=s5.trans s6;rw[Al]at oF;cases oF;refine sv lc le (gD _ rfl rfl (s6 _ _ Ah) hle (ar _ rfl (fk ?_)));have Cf:aM gL H3 H6:=k4.trans (aM.of qL);have M6:=(M3.gm k4).same qL;have X6:=(X3.gm k4).same qL;refine a9 (id M6.obj) λdx6 CJ GG G6=>?_;have yy:=jd Pm qL;refine vM rfl GG (G6.ms _ dk) (⟨m,A,T,lab,n',rfl,M6,L,W',li,yy,(λH7 l7 ws7 ms7 S7 n7 hC7 hc7 W7 hn7 M7 k7 Pl nl7 yt aoF=>?_)⟩);refine oA (ahG hC7 Al) λaa bc=>?_;subst aa;subst bc;cases aoF;refine⟨qc,λlf nlf=>?_⟩;have s8:af H7 (upd H7 lf (.lst [])):=aH (af.refl _) nlf;have ZG:upd H7 lf (.lst []) lf=some (.lst []):=au;generalize upd H7 lf (.lst [])=H8 at s8 ZG ⊢;refine sv l7 lf (gD _ rfl rfl (s8 _ _ yt) ZG (ar _ rfl (fk ?_)));have M8:=M7.same s8;have X8:=(X6.other M6 k7 dj).same s8;have G8:=jd Pl s8;have j':S7.ac.length<64:=by rw[Uy hC];exact rh W.ac hn
   have apf:xH S7:=λa ha=>CD a (by rw[<-Uy hC];exact ha);refine vr rfl (⟨m,A,S7,(g9 _ rfl M8 W7 j' G8 λH9 v9 k9 hL9 st9=>?_)⟩);refine vr rfl (⟨x,A1,S7,(g9 _ rfl (X8.gm k9) W7 j' hL9 λAr v10 z5 api aoo=>?_)⟩);refine Th (st9 Ar ⟨λb xs _ e=>z5.ml e,z5.nu⟩) (aoo Ar ⟨λb xs _ e=>e,λb xs e=>e⟩) (Ic apf) ?_;have K':aM (bG m A) H3 Ar:=((((Cf.mono λb z=>z.elim).trans k7).trans (aM.of s8)).trans (k9.mono λb z=>z.elim)).trans (z5.mono λb z=>z.elim);exact q Ar ⟨λb o h1 h2 e=>K'.k b o h1 h2 (k3.k b o (λz=>by rw[fr b z]at e;cases e) h2 (k2.k b o h1 h2 (s1 _ _ e))),λb e=>s1.free (k2.t b (k3.t b (K'.t b e)))⟩ api
end
section
variable{t:aZ}{C CT:Addr}
theorem vH.xM{x qual d:Str}{st:Stmt}{f:Addr}{fd:aV}{N ps:List Str}{k:Nat}{sp:Sp}(F:vH K x qual st f fd d)(S:bg N ps (aQ st))(len:∀vs H Q E,sp vs H Q E->vs.length=ps.length)
  (qw:∀(aI:Value) (A:Around) (outer:List Env) (s:Shared) (H:Hp) (vs:List V) (Q:VK) (E:XK),dX k (A.deeper (envOfC qual (aQ st) s.heap.objs.size f aI))->
   pC (jj (dg P w) P w K mg base N qual (aQ st) f aI A outer s H E) (λ_=>E)->LN (jj (dg P w) P w K mg base N qual (aQ st) f aI A outer s H E) (λ_=>E)->sp vs H Q E->
   ∃t,eE (jj (dg P w) P w K mg base N qual (aQ st) f aI A outer s H E) (hX st) t/\t { nx:=λ_ H'=>Q .aJ H',rt:=Q } (start N vs) H):aw P w K mg base (dg P w) (k+1) f fd ps sp:=by
 refine l0 F.ex λoc od T kV doc pm an aI ct iN aa=>?_;obtain⟨c1,d1,n1,sG,tk,aa,lk,gU,_⟩:=aa;subst aa;exact tT lk gU S len λA outer s H vs Q E hr nM=>qw aI A outer s H vs Q E hr SV aeY nM
def Ml(k:V):Prop:=k=.str "row"\/k=.str "name"\/k=.str "none"
def US(C cC cP cK:Addr):Sp:=λvs H Q E=>∃m dx v k T,vs=[.ref m,v,k]/\H m=some (.ins C dx [])/\qq H v/\tyName H k=some T/\(ik H v=false->∀H',af H H'->E (.ref cC) none H')/\
 (ik H v=true->∀xs,cq H v=some xs->(∀c p,gC H 0 xs=some (c,p)->∀d H',af H H'->H' d=some (nD d [("clerk",.int c),("place",.int p)])->E (.ref cP) (some d) H')/\ (gC H 0 xs=none->¬Ml k/\∀H',af H H'->E (.ref cK) none H'))
theorem aix{f fK fT PT cC cP se:Addr}{fd CM nO:aV}(F:vH K "__init__" "Machine.__init__" Bk f fd "row")(cM:gw K C)
  (GK:aw P w K mg base (dg P w) 6 fK CM ["program"] (KR cC cP)) (kK:W.keepIn K (.ref fK)=true) (bK:Binds K CM ["program"] []) (mK:mg "look_over" = some (.ref fK))
  (GT:aw P w K mg base (dg P w) 3 fT nO ["kind"] (Jm CT PT se)) (kT:W.keepIn K (.ref fT)=true) (bT:Binds K nO ["kind"] []) (mT:mg "tray_of" = some (.ref fT)) :
  aw P w K mg base (dg P w) 7 f fd ["self","program","kind"] (US C cC cP se):=by
 refine F.xM TX (λvs H Q E h=>?_) λaI A outer s H vs Q E hr hL hG h=>?_
 ·obtain⟨m,dx,v,k,T,aa,_⟩:=h;subst aa;rfl
 ·obtain⟨m,dx,v,k,T,aa,hm,hP,hk,qC,qP⟩:=h;subst aa;have pS:=hr.mono (show 3<=6 by decide)
  refine⟨_,ax (dQ (JC GK hr hL rfl mK kK bK .nil (ae (pv 1) ag))) (ax (dr (pv 0) (agd (N:=["kind","part"]) (idx:=[2]) rfl rfl hG rfl (dN.of (by kernel_rfl)) (je (aF _)) (tM (pv 1)) (λ_ _ _ _ _=>de (i:=1) VR rfl (aR rfl) (.inr rfl)) (λ_ _ _ _ _=>jt)
     λE0 _ _ _ _ _ hl=>JC GT pS hl rfl mT kT bT .nil (ae (pv 0) ag)) rfl)
   (u:=λ_ _ _=>False) λp_ s σ H D I h=>h.elim),?_⟩
  refine vr rfl (⟨v,rfl,hP,(λhf H' s'=>qC hf H' s'),(λht xs lW=>⟨λhn H1 s1=>?_,λc p hc d H' s' hd=>(qP ht xs lW).1 c p hc d H' s' hd⟩)⟩);refine oA ((qP ht xs lW).2 hn) λhb qK=>?_;refine ah (yY lW) λa aa ha=>?_;subst aa
  have hl:0<xs.length:=by
   unfold ik at ht;rw[lW]at ht;have h':((decide (1<=xs.length)&&decide (xs.length<=4))&&xs.all λx=>(cq H x).isSome)=true:=ht;rw[fJ,fJ]at h';exact of_decide_eq_true h'.1.1
  refine ar _ rfl (c8 a rfl ⟨_,aE.of (s1 _ _ ha)⟩ ?_);refine iW (n:=1) (λi ys H'=>i=0/\ys=[]/\H'=H1) qc ⟨rfl,rfl,rfl⟩ ?_ ?_ ?_ ?_ ?_
  ·rintro i ys H' ⟨rfl,rfl,_⟩;exact aF _
  ·rintro i ys H' hi ⟨rfl,rfl,rfl⟩;exact eW _ _ (aE.of (s1 _ _ ha)) (bb hl)
  ·rintro ys H' ⟨z,_⟩;cases z
  ·rintro i ys H' hi ⟨rfl,rfl,rfl⟩ x fb ⟨eH,_⟩;subst eH;dsimp only[jS,ij];rw[if_pos rfl];exact vr rfl (qi k T rfl (rD s1 hk) (λz=>absurd z hb) λ_=>qK _ s1)
  ·rintro ys H' ⟨z,_⟩;cases z
end
abbrev nX(H:Hp)(x:V):Prop:=(∃T,tyName H x=some T)/\∀ys,cq H x=some ys->ys.length<=1000/\∀y∈ys,Told H y
theorem nX.same{H H':Hp}{x:V}(s:af H H')(h:nX H x):nX H' x:=by
 refine oA h λaa hy=>?_;refine oE aa λT hT=>?_;refine⟨⟨T,rD s hT⟩,λys e=>?_⟩;rw[uW s hT]at e;refine oA (hy ys e) λh1 h2=>?_;exact⟨h1,λy hy=>(h2 y hy).same s⟩
theorem qq.same{H H':Hp}{v:V}(s:af H H')(h:qq H v):qq H' v:=by
 refine oA h λaa hx=>?_;refine oE aa λT hT=>?_;refine⟨⟨T,rD s hT⟩,λxs e=>?_⟩;rw[uW s hT]at e;refine oA (hx xs e) λh1 h2=>?_;exact⟨h1,λx hx=>nX.same s (h2 x hx)⟩
theorem all_congr{α:Type}{f g:α->Bool}:∀{l:List α},(∀x∈l,f x=g x)->l.all f=l.all g
 | [],_=>rfl
 | x::r,h=>by rw[wM,wM,h x dE,all_congr λy hy=>h y (dn _ hy)]
theorem RT{H H':Hp}{v:V}(s:af H H')(h:qq H v):ik H' v=ik H v:=by
 refine oA h λaa hx=>?_;refine oE aa λT hT=>?_;unfold ik;rw[uW s hT];cases e:cq H v with
 | none=>rfl
 | some xs=>
  show (_&&xs.all λx=>(cq H' x).isSome)=(_&&xs.all λx=>(cq H x).isSome);rw[all_congr λx eN=>?_];refine oA ((hx xs e).2 x eN) λaa _=>?_;refine oE aa λU hU=>?_;rw[uW s hU]
theorem Rp{H H':Hp}{n:Int}(s:af H H'):∀{l:List V} {p:Nat},(∀y∈l,Told H y)->gr H' n p l=gr H n p l
 | [],_,_=>rfl
 | v::r,p,h=>by
  show (if fj H' v p n=true then gr H' n (p+1) r else some p)=(if fj H v p n=true then gr H n (p+1) r else some p);rw[Ja s (h v dE),Rp s λy hy=>h y (dn _ hy)]
theorem Qt{H H':Hp}(s:af H H'):∀{xs:List V} {c:Nat},(∀x∈xs,nX H x)->gC H' c xs=gC H c xs
 | [],_,_=>rfl
 | x::r,c,h=>by
  refine oA (h x dE) λaa hy=>?_;refine oE aa λT hT=>?_;have ep:dA H' x=dA H x:=by unfold dA;rw[uW s hT]
  have et:∀y∈dA H x,Told H y:=λy Cm=>by
   unfold dA at Cm;cases e:cq H x with
   | none=>rw[e]at Cm;cases Cm
   | some ys=>rw[e]at Cm;exact(hy ys e).2 y Cm
  show (match gr H' (dA H' x).length 0 (dA H' x)with | some p=>some (c,p) | none=>gC H' (c+1) r)=(match gr H (dA H x).length 0 (dA H x)with | some p=>some (c,p) | none=>gC H (c+1) r);rw[ep,Rp s et,Qt s λy hy=>h y (dn _ hy)]
theorem Ve{X:Cx}{e:Expr}{f:Str}{pos:Pos}{ta:TE}(K:PySem.W.Frag)(he:PE X e ta)(hb:AH e f X.env (eval e X.env)=eval e X.env)(h:X.K=K:=by rfl):PE X (.Attribute e f pos) (Vw K ta f):=by subst h;exact ail he hb
theorem xcd{o:Option Jk}(h:o.any (λcd=>rK cd.mro&&cd.hasDict)=true):∃cd,o=some cd/\rK cd.mro=true/\cd.hasDict=true:=by
 cases o with
 | none=>cases h
 | some cd=>
  have z:(rK cd.mro&&cd.hasDict)=true:=h;rw[fJ]at z;exact c8 cd rfl z.1 z.2
structure XB(K:PySem.W.Frag)(cK cC cP:Addr):Prop where
 bK:PySem.W.kitCls K (.ref cK) (.type "BaseException")=some true
 bC:PySem.W.kitCls K (.ref cC) (.type "BaseException")=some true
 bP:PySem.W.kitCls K (.ref cP) (.type "BaseException")=some true
 kk:PySem.W.kitCls K (.ref cK) (.ref cK)=some true
 ck:PySem.W.kitCls K (.ref cC) (.ref cK)=some false
 cc:PySem.W.kitCls K (.ref cC) (.ref cC)=some true
 pk:PySem.W.kitCls K (.ref cP) (.ref cK)=some false
 pc:PySem.W.kitCls K (.ref cP) (.ref cC)=some false
 pp:PySem.W.kitCls K (.ref cP) (.ref cP)=some true
 x1:BY K cK
 x2:BY K cC
 kc:PySem.W.kitOne K (.ref cK) (.ref cC)=some false
 kp:PySem.W.kitOne K (.ref cK) (.ref cP)=some false
 cp:PySem.W.kitOne K (.ref cC) (.ref cP)=some false
 xf:XF K cP
 n1:bj K cP "clerk"
 n2:bj K cP "place"
section
variable{t:aZ}{C CT:Addr}
def Tz:Sp:=λvs H Q _=>∃v k T,vs=[v,k]/\qq H v/\tyName H k=some T/\(ik H v=false->∀H',af H H'->Q (.str "clerks") H')/\
 (ik H v=true->∀xs,cq H v=some xs->(∀c p,gC H 0 xs=some (c,p)->∀q H',af H H'->H' q=some (.tup [.str "program",.int c,.int p])->Q (.ref q) H')/\ (gC H 0 xs=none->¬Ml k/\∀H',af H H'->Q (.str "kind") H'))
theorem y':bg ["_law_program_here","_law_kind","_law_word","e"] zLg (aQ Lb):=bu
theorem ago{f fI cK cC cP:Addr}{fd dI:aV}(F:aW K "_law_made" "_law_made" Lb f fd)(hI:mg "isinstance" = none)(iD:mg "int" = none)(mk:Mk K C fI)(GI:aw P w K mg base (dg P w) 7 fI dI ["self","program","kind"] (US C cC cP cK))(BE:mg "Machine" = some (.ref C))(b3:Binds K dI ["self","program","kind"] [])
  (x:XB K cK cC cP) (mK:mg "NoKind" = some (.ref cK)) (mC:mg "NoClerks" = some (.ref cC)) (mP:mg "NoProgram" = some (.ref cP)):aw P w K mg base az 9 f fd zLg Tz:=by
 refine F.ok y' (λvs H Q E h=>?_) λaI A _ s H vs Q E hr h=>?_
 ·refine eV h λv k T aa _=>?_;clear h;subst aa;rfl
 ·obtain⟨v,k,T,aa,hP,hk,qC,qP⟩:=h;subst aa;refine⟨_,ax (bZ (i:=2) y'.nd rfl (aR rfl) bw) (ax (aih (i:=3) rfl rfl rfl y'.nd rfl rfl rfl mK x.bK rfl mC x.bC rfl mP x.bP (λW pn E hL hp=>aB (dQ (agc mk GI hr hL rfl BE b3 .nil (ae (pv 0) (ae (pv 1) ag))))) (λea pn=>aB (bZ (i:=2) y'.nd rfl (aR rfl) (aT (EI K) (dW (ae bw (ae bw ag))) (jg DC rfl iD Bb (ae (VJ (cA (Lx K) rfl hI jc (ae (pv 3) (ae (fV (v:=.ref cC) rfl mC rfl) ag))) (vo (cA (Lx K) rfl hI jc (ae (pv 3) (ae (fV (v:=.ref cP) rfl mP rfl) ag))))) ag))))) (λea pn=>aB (bZ (i:=2) y'.nd rfl (aR rfl) (aT (EI K) (dW (ae bw (ae bw ag))) (jg DC rfl iD Bb (ae (cA (Lx K) rfl hI jc (ae (pv 3) (ae (fV (v:=.ref cP) rfl mP rfl) ag))) ag))))) λea pn=>aB (bZ (i:=2) y'.nd rfl (aR rfl) (eR (ae bw (ae (Ve K (pv 3) rfl) (ae (Ve K (pv 3) rfl) ag)))))) (aB (a8 (pv 2)))),?_⟩;refine ar _ rfl (vr rfl λm dx nm nd ne=>?_);have s1:af H (upd (upd H dx (.own m)) m (.ins C dx [])):=aH (aH (af.refl _) nd) (by rw[aj ne.symm];exact nm);have iy:upd (upd H dx (.own m)) m (.ins C dx []) m=some (.ins C dx []):=au;generalize upd (upd H dx (.own m)) m (.ins C dx [])=H1 at s1 iy ⊢;have hM:=RT s1 hP
  have e2:∀(c:Addr) (d:Option Addr) {H2 H3:Hp} {ea:Addr},af H1 H2->H2 ea=none->H3=upd H2 ea (pL ea (.ref c) d)->af H H3/\H3 ea=some (pL ea (.ref c) d)/\af H2 H3:=λc d {H2 H3 ea} s2 n e=>by
   subst e;exact iq (s1.trans (aH s2 n)) au (aH (af.refl _) n)
  refine oW m dx v k T rfl iy (hP.same s1) (rD s1 hk) (λhf H2 s2=>.inr (.inl ⟨x.ck,x.cc,λea yu=>?_⟩)) λht xs lW=>?_
  ·rw[hM]at hf;generalize eH:upd H2 ea (pL ea (.ref cC) none)=H3;refine gH (e2 cC none s2 yu eH.symm) λs3 he _=>?_;refine⟨qc,λl nl=>?_⟩;have s4:af H3 (upd H3 l (.lst [.str "clerks",.str "both"])):=aH (af.refl _) nl;have hl:upd H3 l (.lst [.str "clerks",.str "both"]) l=some (.lst [.str "clerks",.str "both"]):=au;generalize upd H3 l (.lst [.str "clerks",.str "both"])=H4 at s4 hl ⊢;refine vr rfl (⟨ea,cC,none,(.ref cP),_,(⟨_,rfl,(s4 _ _ he),(λd z=>(by cases z)),x.x2,rfl,x.cp,(.inr (ar _ rfl ?_))⟩)⟩);exact rL (v:=.str "clerks") (av.of hl) (rfl) (vr rfl (qC hf H4 (s3.trans s4)))
  ·rw[hM]at ht;refine oA (id hP) λaa hx=>?_;refine oE aa λT' hT'=>?_;have hv:cq H v=some xs:=by rw[<-uW s1 hT'];exact lW
   have eF:=Qt s1 (c:=0) (hx xs hv).2;rw[eF];refine oA (qP ht xs hv) λq1 q2=>?_;refine⟨λc p hc d H2 s2 hd=>.inr (.inr ⟨x.pk,x.pc,x.pp,λea yu=>?_⟩),λhn=>⟨(q2 hn).1,λH2 s2=>.inl ⟨x.kk,λea yu=>?_⟩⟩⟩
   ·generalize eH:upd H2 ea (pL ea (.ref cP) (some d))=H3;refine gH (e2 cP (some d) s2 yu eH.symm) λs3 he x6=>?_;have Aj:=x6 _ _ hd;refine ar _ rfl (⟨ea,cP,d,_,(.int c),rfl,he,Aj,x.xf,x.n1,rfl,(vr rfl (⟨ea,cP,d,_,(.int p),rfl,he,Aj,x.xf,x.n2,rfl,(by show 3<=aP;decide),(λl nl=>?_)⟩))⟩);exact vr rfl (q1 c p hc l _ (aH s3 nl) au)
   ·generalize eH:upd H2 ea (pL ea (.ref cK) none)=H3;refine gH (e2 cK none s2 yu eH.symm) λs3 he _=>?_;refine⟨qc,λl nl=>?_⟩;have s4:af H3 (upd H3 l (.lst [.str "kind",.str "both"])):=aH (af.refl _) nl;have hl:upd H3 l (.lst [.str "kind",.str "both"]) l=some (.lst [.str "kind",.str "both"]):=au;generalize upd H3 l (.lst [.str "kind",.str "both"])=H4 at s4 hl ⊢;refine vr rfl (⟨ea,cK,none,(.ref cC),_,(⟨_,rfl,(s4 _ _ he),(λd z=>(by cases z)),x.x1,rfl,x.kc,(ar _ rfl (fk ?_))⟩)⟩);refine vr rfl (⟨ea,cK,none,(.ref cP),_,(⟨_,rfl,(s4 _ _ he),(λd z=>(by cases z)),x.x1,rfl,x.kp,(.inr (ar _ rfl ?_))⟩)⟩);exact rL (v:=.str "kind") (av.of hl) (rfl) (vr rfl ((q2 hn).2 H4 (s3.trans s4)))
end
abbrev nV(n:Nat):V:=.int (n:Int)
theorem IF{α β:Type}{F:α->β->Prop}{l:List α}{r:List β}(h:Paired F l r){x:α}(hx:x∈l):∃y∈r,F x y:=by
 induction h with
 | nil=>cases hx
 | @cons a b l r g _ ih=>
  rcases bq.mp hx with e | e
  ·subst e;exact⟨_,dE,g⟩
  ·refine ah (ih e) λy h1 h2=>?_;exact ar y (dn _ h1) h2
theorem U7{H:Hp}{p:Addr}{xs:List V}(e:H p=some (.lst xs)):tyName H (.ref p)=some "list"/\cq H (.ref p)=none:=⟨by unfold tyName;simp only[e],by unfold cq;simp only[e]⟩
def sk(H:Hp)(v:V):Prop:=qq H v/\ik H v=false
theorem sk.same{H H':Hp}{v:V}(s:af H H')(h:sk H v):sk H' v:=⟨h.1.same s,by rw[RT s h.1];exact h.2⟩
theorem ael{H:Hp}{v:V}{T:String}(h:tyName H v=some T)(n:cq H v=none):sk H v:=
 ⟨⟨⟨T,h⟩,λxs e=>by rw[n]at e;cases e⟩,by unfold ik;rw[n]⟩
theorem ajY{H:Hp}{p:Addr}{xs:List V}(e:H p=some (.lst xs)):sk H (.ref p):=
 ael (T:="list") (by unfold tyName;simp only[e]) (by unfold cq;simp only[e])
theorem Uz{H:Hp}{p:Addr}{xs:List V}(e:H p=some (.tup xs))(hl:xs.length<=1000)(hx:∀x∈xs,nX H x)(hb:xs.length=0\/4<xs.length\/∃x∈xs,cq H x=none):sk H (.ref p):=by
 refine⟨⟨⟨_,tx e⟩,λys q=>by rw[gZ e]at q;cases q;exact⟨hl,hx⟩⟩,?_⟩;unfold ik;rw[gZ e];show ((decide (1<=xs.length)&&decide (xs.length<=4))&&xs.all λx=>(cq H x).isSome)=false;rcases hb with h | h | ⟨x,eN,h⟩
 ·rw[decide_eq_false li,rn,rn]
 ·rw[decide_eq_false (show ¬xs.length<=4 by lia),HW,rn]
 ·rw[show (xs.all λx=>(cq H x).isSome)=false from List.all_eq_false.mpr ⟨x,eN,by rw[h];exact dh⟩,HW]
theorem Ul{ps:List Pt}(hg:qu ps){c:Nat}(hc:c<ps.length):(ps.getD c []).length<=120/\∀t∈ps.getD c [],di (ps.getD c []).length t:=by
 have e:ps.getD c []=ps[c]:=by rw[pY,bb hc];rfl
 rw[e];exact hg.part _ (AB hc)
theorem aik{H:Hp}{bh:List V}{ps:List Pt}{c:Nat}(h:Paired (IsPart H) bh ps)(hc:c<ps.length):∃(b:Addr) (us:List V),ir bh (c:Int)=some (.ref b)/\H b=some (.tup us)/\Paired (jO H) us (ps.getD c []):=by
 have hl:=Paired.length h;refine ah (uS h (bb (show c<bh.length by lia))) λy hy aa=>?_;refine cG aa λa us e ha hp=>?_;have e2:ps.getD c []=y:=by rw[pY,hy];rfl
 rw[e2];exact dv a us (dG (by rw[bb (show c<bh.length by omega),e])) ha hp
theorem Uc(d:Int){b:Nat}(hb:0<b):∃k:Nat,k<b/\d%(b:Int)=(k:Int):=by
 have h1:0<=d%(b:Int):=sZ _ li;have h2:d%(b:Int)<b:=uJ _ li;exact ar ((d%(b:Int)).toNat) li li
theorem Et{xs:List V}{d:Int}{n:Nat}(h:xs.length=n)(hn:0<n):∃v,ir xs (d%(n:Int))=some v/\v∈xs:=by
 have b1:0<=d%(n:Int):=sZ _ li;have b2:d%(n:Int)<n:=uJ _ li;have e:d%(n:Int)=((d%(n:Int)).toNat:Int):=li;have dB:(d%(n:Int)).toNat<xs.length:=li;refine ar (xs[(d%(n:Int)).toNat]) ?_ (AB dB);have q:=dG (bb dB);rw[<-e]at q;exact q
theorem Iv{α β:Type}{F:α->β->Prop}:∀{l:List α} {m:List β} (i:Nat),Paired F l m->Paired F (l.take i) (m.take i)
 | _,_,0,_=>.nil
 | _,_,_+1,.nil=>.nil
 | _,_,i+1,.cons h t=>.cons h (Iv i t)
def oh(H:Hp)(o:V)(n:Int):Prop:=Told H o/\∀p,fj H o p n=false
theorem oh.same{H H':Hp}{o:V}{n:Int}(h:oh H o n)(s:af H H'):oh H' o n:=⟨h.1.same s,λp=>by rw[Ja s h.1];exact h.2 p⟩
theorem SN{H:Hp}{o:V}{n:Int}(h:Told H o)(e:kD H o=false):oh H o n:=⟨h,λp=>by unfold fj;rw[e];rfl⟩
theorem agy{H:Hp}{p:Addr}{n:Int}(e:H p=some (.tup [.str "skip",.int 0,.int (n+1)])):oh H (.ref p) n:=by
 refine⟨DF e (by show 3<=1000;decide) λx hx=>?_,λq=>?_⟩
 ·simp only[bq,yH,or_false]at hx;rcases hx with rfl | rfl | rfl
  ·decide +kernel
  ·rfl
  ·rfl
 ·have e1:tG H (.ref p) n=true:=by
   unfold tG;rw[gZ e];show (decide ((("skip" : Str)) = "skip")&&decide (n<n+1))=true;rw[decide_eq_true rfl,decide_eq_true li];rfl
  unfold fj;rw[e1];simp
theorem Ua{H:Hp}{p:Addr}{x:Str}{a b:Int}{u v:Int}{n:Int}(e:H p=some (.tup [.str x,.int a,.int b]))(hx:lJ x=true)(hb:cD x=some [u,v])(h:¬(a<u/\b<v)):oh H (.ref p) n:=by
 refine SN (DF e (by show 3<=1000;decide) λy hy=>?_) ?_
 ·simp only[bq,yH,or_false]at hy;rcases hy with rfl | rfl | rfl
  ·exact hx
  ·rfl
  ·rfl
 ·unfold kD;rw[gZ e];show (match cD x with | none=>false | some bs=>decide ([V.int a,V.int b].length=bs.length)&&([V.int a,V.int b].zip bs).all λp=>kN p.1 p.2)=false;rw[hb];show (decide (2=2)&&((decide (0<=a)&&decide (a<u))&&((decide (0<=b)&&decide (b<v))&&true)))=false
  by_cases h1:a<u
  ·rw[decide_eq_false λh2=>h ⟨h1,h2⟩];simp
  ·rw[decide_eq_false h1];simp
theorem akD{H:Hp}{p:Addr}{n:Int}(e:H p=some (.tup [.str "do",.int 0])):oh H (.ref p) n:=by
 refine SN (DF e (by show 2<=1000;decide) λy hy=>?_) ?_
 ·simp only[bq,yH,or_false]at hy;rcases hy with rfl | rfl
  ·decide +kernel
  ·rfl
 ·unfold kD;rw[gZ e];have hb:cD "do" = none:=by unfold cD;rw[if_neg dk,if_neg dk,if_neg dk,if_neg dk,if_neg dk,if_neg dk,if_neg dk]
  show (match cD "do" with | none=>false | some bs=>decide ([V.int 0].length=bs.length)&&([V.int 0].zip bs).all λp=>kN p.1 p.2)=false;rw[hb]
theorem ahH{H:Hp}{z x:Addr}{bh us:List V}{ps:List Pt}{o:V}{c at_:Nat}(hg:qu ps)(Po:∀p∈ps,p.length<=60)(hv:Paired (IsPart H) bh ps)(hc:c<ps.length)(hu:Paired (jO H) us (ps.getD c []))(ha:at_<=(ps.getD c []).length)
  (ho:oh H o (((ps.getD c []).length:Int)+1)) (hx:H x=some (.tup ((us.take at_++[o])++us.drop at_))) (hz:H z=some (.tup ((bh.take c++[.ref x])++bh.drop (c+1)))) :
  qq H (.ref z)/\ik H (.ref z)=true/\∀xs,cq H (.ref z)=some xs->gC H 0 xs=some (c,at_):=by
 have dO:bh.length=ps.length:=Paired.length hv;have pQ:us.length=(ps.getD c []).length:=Paired.length hu;have hle:=hg.le;have i8:=hg.ne;refine oA (Ul hg hc) λg1 g2=>?_
 have g60:(ps.getD c []).length<=60:=by
  have e:ps.getD c []=ps[c]:=by rw[pY,bb hc];rfl
  rw[e];exact Po _ (AB hc)
 have Ad:∀t∈bh,nX H t/\(cq H t).isSome=true:=λt ht=>by
  refine ah (IF hv ht) λp hp aa=>?_;refine cG aa λb ws aa hb hq=>?_;subst aa;refine oA (hg.part p hp) λg3 g4=>?_;have mV:=Paired.length hq;refine⟨⟨⟨_,tx hb⟩,λys e=>?_⟩,by rw[gZ hb];rfl⟩;rw[gZ hb]at e;cases e;refine⟨li,λy hy=>?_⟩;refine ah (IF hq hy) λt ht jV=>?_;exact jV.told (g4 t ht)
 have Zq:∀y∈us,Told H y:=λy hy=>by
  refine ah (IF hu hy) λt ht jV=>?_;exact jV.told (g2 t ht)
 have hxo:nX H (.ref x):=⟨⟨_,tx hx⟩,λys e=>by
  rw[gZ hx]at e;cases e;refine⟨by rw[cX,cX,ff,wL,C4];lia,λy hy=>?_⟩;rcases jo.mp hy with h | h
  ·rcases jo.mp h with h | h
   ·exact Zq y (C5 h)
   ·rw[gz.mp h];exact ho.1
  ·exact Zq y (aaE h)⟩
 have Fl:∀t∈(bh.take c++[V.ref x])++bh.drop (c+1),nX H t/\(cq H t).isSome=true:=λt ht=>by
  rcases jo.mp ht with h | h
  ·rcases jo.mp h with h | h
   ·exact Ad t (C5 h)
   ·rw[gz.mp h];exact⟨hxo,by rw[gZ hx];rfl⟩
  ·exact Ad t (aaE h)
 have hlen:((bh.take c++[V.ref x])++bh.drop (c+1)).length=ps.length:=by
  rw[cX,cX,ff,wL];simp;lia
 refine iq ⟨⟨_,tx hz⟩,λxs e=>?_⟩ ?_ λxs e=>?_
 ·rw[gZ hz]at e;cases e;exact⟨li,λt ht=>(Fl t ht).1⟩
 ·unfold ik;rw[gZ hz];show ((decide (1<=_)&&decide (_<=4))&&_)=true;rw[hlen,decide_eq_true om,decide_eq_true om,oU,oU,yI];exact λt ht=>(Fl t ht).2
 ·rw[gZ hz]at e;cases e;have Gm:(bh.take c).length=c:=by rw[ff];lia
  have Gn:(us.take at_).length=at_:=by rw[ff];lia
  have ep:dA H (.ref x)=(us.take at_++[o])++us.drop at_:=by unfold dA;rw[gZ hx];rfl
  refine QG (i:=c) (x:=.ref x) ?_ ?_ ?_
  ·rw[Aw (by rw[cX,Gm];simp),Au li,Gm];simp
  ·rw[Qe,PM li,iE om];exact HY (Iv c hv) λp hp=>hg.part p (C5 hp)
  ·rw[ep]
   have el:(((us.take at_++[o])++us.drop at_).length:Int)=((ps.getD c []).length:Int)+1:=by
    have:((us.take at_++[o])++us.drop at_).length=(ps.getD c []).length+1:=by
     rw[cX,cX,ff,wL,C4];lia
    lia
   rw[el];refine Sl (i:=at_) (x:=o) ?_ ?_ (ho.2 _)
   ·rw[Aw (by rw[cX,Gn];simp),Au li,Gn];simp
   ·rw[Qe,PM li,iE om];have:=IK (H:=H) (sz:=(ps.getD c []).length+1) (c:=0) (Iv at_ hu) (λt ht=>(g2 t (C5 ht)).mono li) li;exact this
theorem Kw{H H':Hp}(s:af H H'):∀b xs,H b=some (.tup xs)->H' b=some (.tup xs):=λb xs e=>s b _ e
def zV(H:Hp)(v:V):Prop:=∃T,tyName H v=some T
def FL(H:Hp)(v:V):Prop:=zV H v/\¬Ml v
def NI(R:Hp->V->Prop)(n:Nat):TE:=λσ H Q=>∀(l:Addr) (vs:List V) (H':Hp),af H H'->H' l=some (.lst vs)->vs.length=n->(∀v∈vs,R H' v)->Q (.ref l) H'
theorem Bu(x:Str)(H:Hp):zV H (.str x):=⟨_,rfl⟩
theorem akV(H:Hp):zV H .aJ:=⟨_,rfl⟩
theorem akW(H:Hp)(l:Addr){xs:List V}(e:H l=some (.lst xs)):zV H (.ref l):=⟨_,(U7 e).1⟩
theorem LJ{x:Str}(h:¬(x = "row"\/x = "name"\/x = "none"))(H:Hp):FL H (.str x):=⟨⟨_,rfl⟩,λz=>by
 rcases z with e | e | e <;> injection e with e
 ·exact h (.inl e)
 ·exact h (.inr (.inl e))
 ·exact h (.inr (.inr e))⟩
theorem alu(H:Hp):FL H .aJ:=⟨⟨_,rfl⟩,λz=>by rcases z with e | e | e <;> cases e⟩
theorem alv(H:Hp)(l:Addr){xs:List V}(e:H l=some (.lst xs)):FL H (.ref l):=⟨⟨_,(U7 e).1⟩,λz=>by rcases z with e | e | e <;> cases e⟩
theorem adb(a b:Int):shaped (.tuple [.str "program",.int a,.int b])=true:=by
 have h:lJ "program" = true:=dk;unfold shaped;simp[lp,kj,iT,lI,h]
abbrev pJ(n:Nat):Stmt:=(hX BJ).getD n (.Pass ⟨0,0,0,0⟩)
@[irreducible] def zR:Expr:=XJ (pJ 0)
theorem ajX:∃p1 p2 p3,hX BJ=[.Assign [.Name "_law_kind" p1] (.Subscript zR (XU (pJ 0)) p2) p3,pJ 1,pJ 2,pJ 3,pJ 4,pJ 5,pJ 6,pJ 7,pJ 8,pJ 9,pJ 10]:=by
 unfold zR;exact⟨_,_,_,rfl⟩
theorem aml{X:Cx}:PE X zR (NI zV 7):=by
 unfold zR;refine PE.imp (t':=NI zV 7) (dW (ae bw (ae bw (ae bw (ae bw (ae bw (ae rS (ae (dW (ae bw ag)) ag)))))))) ?_;rintro σ H1 R q;refine⟨by show 1<=aP;decide,λl1 n1=>⟨by show 7<=aP;decide,λl nl=>?_⟩⟩;have e1:upd H1 l1 (.lst [.str "row"]) l1=some (.lst [.str "row"]):=au;have s1:=aH (o:=.lst [.str "row"]) (af.refl H1) n1;generalize upd H1 l1 (.lst [.str "row"])=G1 at s1 e1 nl ⊢;have s2:=aH (o:=.lst [.str "row",.str "name",.str "none",.str "rows",.str "",.aJ,.ref l1]) (af.refl G1) nl;refine q l _ _ (s1.trans s2) au rfl λv hv=>?_;simp only[bq,yH,or_false]at hv;rcases hv with rfl | rfl | rfl | rfl | rfl | rfl | rfl
 ·exact Bu _ _
 ·exact Bu _ _
 ·exact Bu _ _
 ·exact Bu _ _
 ·exact Bu _ _
 ·exact akV _
 ·exact akW _ _ (s2 _ _ e1)
def Vz:Sp:=λvs H Q _=>∃(v:V) (c:Int) (ps:List Pt),vs=[v,.int c]/\qm H v ps/\qu ps/\(∀p∈ps,p.length<=60)/\∀H',af H H'->Q (.bl true) H'
theorem tS:bg ["_law_program_here","_law_cell","_law_kind","_law_clerk","_law_part","_law_at","_law_bad","_law_spoilt","_law_amount","_law_wide"] zLh (aQ BJ):=bu
def al8(n:Nat):TE:=λσ H Q=>(∃pa us,σ[4]?=some (some (.ref pa))/\H pa=some (.tup us)/\us.length=n)/\∀(l:Addr) (vs:List V) (H':Hp),af H H'->H' l=some (.lst vs)->vs.length=4->(∀v∈vs,oh H' v ((n:Int)+1))->Q (.ref l) H'
def aj8:TE:=λσ H Q=>(∃a bh,σ[0]?=some (some (.ref a))/\H a=some (.tup bh)/\0<bh.length/\bh.length<=4/\∀t∈bh,nX H t)/\∀(l:Addr) (vs:List V) (H':Hp),af H H'->H' l=some (.lst vs)->vs.length=3->(∀v∈vs,sk H' v)->Q (.ref l) H'
def amc:TE:=λσ H Q=>∃(a pa:Addr) (bh us:List V) (c at_:Nat) (o:V) (x1 x2 x7 x8 x9:Option V),σ=[some (.ref a),x1,x2,some (nV c),some (.ref pa),some (nV at_),some o,x7,x8,x9]/\H a=some (.tup bh)/\H pa=some (.tup us)/\bh.length<=4/\us.length<=120/\
 ∀(z x:Addr) (H':Hp),af H H'->H' x=some (.tup ((us.take at_++[o])++us.drop at_))->H' z=some (.tup ((bh.take c++[.ref x])++bh.drop (c+1)))->Q (.ref z) H'
theorem VN{r:V->Option Int->Option Int->Hp->VK->Prop}{σ:L2.St}{H:Hp}{lo:Option Int}{x:V}{Q:VK}(h:r x lo none H Q):Tu σ H λu H3=>r x lo u H3 Q:=h
theorem akz{f fW:Addr}{fd kU:aV}(F:aW K "_law_refused" "_law_refused" BJ f fd)(gd:mg "len" = none)(gR:mg "list" = none)
  (GW:aw P w K mg base az 9 fW kU zLg Tz) (kW:W.keepIn K (.ref fW)=true) (bW:Binds K kU zLg []) (mW:mg "_law_made" = some (.ref fW)) :
  aw P w K mg base az 10 f fd zLh Vz:=by
 refine F.ok tS (λvs H Q E h=>?_) λaI A _ s H vs Q E hr h=>?_
 ·refine eV h λv c ps aa _=>?_;clear h;subst aa;rfl
 ·obtain⟨v,cl,ps,aa,ET,hg,Po,k⟩:=h;subst aa;have hu:=hr.units;refine cG (id ET) λa bh aa ha hv=>?_;subst aa;have dO:bh.length=ps.length:=Paired.length hv;have hle:=hg.le;have i8:=hg.ne;refine MT ajX λp1 p2 p3 eB=>?_;rw[eB];refine ah (Uc (cl/7) (show 0<bh.length by lia)) λcn hcn ecn=>?_
  refine⟨_,ax (bZ (i:=2) tS.nd rfl (aR rfl) (aT cI aml (a7 fg (pv 1) ay) (by first | (intro _ _;rfl) | (intro _ _;unfold zR;rfl))) (by first | rfl | (unfold zR;rfl)))
   (ax (bZ (i:=3) tS.nd rfl (aR rfl) (a7 fg (a7 jL (pv 1) ay) (cA iG rfl gd PySem.boot_len (ae (pv 0) ag)))) (ax (bZ (i:=4) tS.nd rfl (aR rfl) (aT du (pv 0) (pv 3))) (ax (bZ (i:=5) tS.nd rfl (aR rfl) (a7 fg (a7 jL (pv 1) ay) (a7 kz (cA iG rfl gd PySem.boot_len (ae (pv 4) ag)) ay))) (ax (bZ (i:=6) tS.nd rfl (aR rfl) (aT cI (PE.imp (t':=al8 (ps.getD cn []).length) (dW (ae (eR (ae bw (ae ay (ae (a7 kz (cA iG rfl gd PySem.boot_len (ae (pv 4) ag)) ay) ag)))) (ae (eR (ae bw (ae ay ag))) (ae (eR (ae bw (ae ay (ae ay ag)))) (ae (eR (ae bw (ae ay (ae ay ag)))) ag))))) ?odd) (a7 fg (a7 jL (pv 1) ay) ay))) (ax (bZ (i:=7) tS.nd rfl (aR rfl) (PE.imp (t':=amc) (a7 (D3 K) (a7 (D3 K) (uZ DY (pv 0) vg (vf (pv 3))) (eR (ae (a7 (D3 K) (a7 (D3 K) (uZ DY (pv 4) vg (vf (pv 5))) (eR (ae (pv 6) ag))) (uZ DY (pv 4) (vf (pv 5)) vg)) ag))) (uZ DY (pv 0) (vf (a7 kz (pv 3) ay)) vg)) ?bad)) (ax (cF (cw (xp hu) (dF GW hr rfl mW kW bW .nil aS (ae (pv 7) (ae (pv 2) ag))) (eR (ae bw (ae (pv 3) (ae (pv 5) ag)))) (bU _)) (aB (a8 kG)) cU) (ax (bZ (i:=8) tS.nd rfl (aR rfl) (a7 fg (a7 jL (pv 1) ay) ay)) (ax (bZ (i:=9) tS.nd rfl (aR rfl) (aT cI (PE.imp (t':=aj8) (dW (ae (eR ag) (ae (a7 ain (pv 0) ay) (ae (jg rA rfl gR o7 (ae (pv 0) ag)) ag)))) ?aJ) (pv 8))) (ax (cF (cw (xp hu) (dF GW hr rfl mW kW bW .nil aS (ae (pv 9) (ae (pv 2) ag))) bw (bU _)) (aB (a8 kG)) cU) (aB (a8 (tH (Ln hu) (dF GW hr rfl mW kW bW .nil aS (ae (pv 0) (ae (aT cI (PE.imp (t':=NI FL 5) (dW (ae bw (ae bw (ae rS (ae (dW (ae bw ag)) (ae bw ag)))))) ?bk) (a7 fg (a7 jL (pv 1) ay) ay)) ag))) bw (bU _))))))))))))),?_⟩
  case bk=>
   rintro σ H1 R q;refine⟨by show 1<=aP;decide,λl1 n1=>⟨by show 5<=aP;decide,λl nl=>?_⟩⟩;have e1:upd H1 l1 (.lst [.str "row"]) l1=some (.lst [.str "row"]):=au;have s1:=aH (o:=.lst [.str "row"]) (af.refl H1) n1;generalize upd H1 l1 (.lst [.str "row"])=G1 at s1 e1 nl ⊢;have s2:=aH (o:=.lst [.str "rows",.str "",.aJ,.ref l1,.str "Row"]) (af.refl G1) nl;refine q l _ _ (s1.trans s2) au rfl λv hv=>?_;simp only[bq,yH,or_false]at hv;rcases hv with rfl | rfl | rfl | rfl | rfl
   ·exact LJ dk _
   ·exact LJ dk _
   ·exact alu _
   ·exact alv _ _ (s2 _ _ e1)
   ·exact LJ dk _
  case odd=>
   rintro σ H1 R ⟨⟨pa,us,h3,yl,pQ⟩,q⟩;refine ar _ h3 (dv pa us rfl (.inr (aE.of yl)) ⟨_,⟨_,rfl,rfl,by show 3<=aP;decide,λp1 n1=>⟨by show 2<=aP;decide,λp2 n2=>⟨by show 3<=aP;decide,λp3 n3=>⟨by show 3<=aP;decide,λp4 n4=>⟨by show 4<=aP;decide,λl nl=>?_⟩⟩⟩⟩⟩⟩);have s1:=aH (o:=.tup [.str "skip",.int 0,.int ((us.length:Int)+2)]) (af.refl H1) n1;have o1:oh (upd H1 p1 (.tup [.str "skip",.int 0,.int ((us.length:Int)+2)])) (.ref p1) (((ps.getD cn []).length:Int)+1):=agy (by rw[au,pQ];congr 5);generalize upd H1 p1 (.tup [.str "skip",.int 0,.int ((us.length:Int)+2)])=G1 at s1 o1 n2 n3 n4 nl ⊢;have s2:=aH (o:=.tup [.str "do",.int 0]) (af.refl G1) n2;have o2:oh (upd G1 p2 (.tup [.str "do",.int 0])) (.ref p2) (((ps.getD cn []).length:Int)+1):=akD au;generalize upd G1 p2 (.tup [.str "do",.int 0])=G2 at s2 o2 n3 n4 nl ⊢;have s3:=aH (o:=.tup [.str "put",.int 4,.int 1]) (af.refl G2) n3;have o3:oh (upd G2 p3 (.tup [.str "put",.int 4,.int 1])) (.ref p3) (((ps.getD cn []).length:Int)+1):=Ua au dk V9 (λz=>absurd z.1 qc);generalize upd G2 p3 (.tup [.str "put",.int 4,.int 1])=G3 at s3 o3 n4 nl ⊢;have s4:=aH (o:=.tup [.str "look",.int 0,.int 12]) (af.refl G3) n4;have o4:oh (upd G3 p4 (.tup [.str "look",.int 0,.int 12])) (.ref p4) (((ps.getD cn []).length:Int)+1):=Ua au dk Vo (λz=>absurd z.2 qc);generalize upd G3 p4 (.tup [.str "look",.int 0,.int 12])=G4 at s4 o4 nl ⊢;have s5:=aH (o:=.lst [.ref p1,.ref p2,.ref p3,.ref p4]) (af.refl G4) nl;refine q l _ _ ((((s1.trans s2).trans s3).trans s4).trans s5) au rfl λv hv=>?_;simp only[bq,yH,or_false]at hv;rcases hv with rfl | rfl | rfl | rfl
   ·exact o1.same (((s2.trans s3).trans s4).trans s5)
   ·exact o2.same ((s3.trans s4).trans s5)
   ·exact o3.same (s4.trans s5)
   ·exact o4.same s5
  case bad=>
   rintro σ H1 R ⟨a,pa,bh,us,c,at_,o,x1,x2,x7,x8,x9,rfl,ha,yl,dO,pQ,q⟩;refine vr rfl (ar _ rfl (ar (c:Int) rfl (Ee ha λp1 H2 s2 e2=>?_)));rw[Vk]at e2;have l1:(bh.take c).length<=bh.length:=by rw[ff];lia
   have l2:(us.take at_).length<=us.length:=by rw[ff];lia
   have l3:(us.drop at_).length<=us.length:=by rw[wL];lia
   have l4:(bh.drop (c+1)).length<=bh.length:=by rw[wL];lia
   refine ar _ rfl (ar _ rfl (ar (at_:Int) rfl (Ee (s2 _ _ yl) λp3 H3 s3 e3=>?_)));rw[Vk]at e3;refine vr rfl ⟨by show 1<=aP;decide,(λp4 n4=>?_)⟩;have s4:=aH (o:=.tup [o]) (af.refl H3) n4;have e4:upd H3 p4 (.tup [o]) p4=some (.tup [o]):=au;generalize upd H3 p4 (.tup [o])=H4 at s4 e4;refine D' (s4 _ _ e3) e4 (by show _+1<=1000;lia) λp5 H5 s5 e5=>?_;have sA:=((s2.trans s3).trans s4).trans s5;refine vr rfl (vr rfl (ar (at_:Int) rfl (VN (Ee (sA _ _ yl) λp6 H6 s6 e6=>?_))));rw[Ti]at e6;refine D' (s6 _ _ e5) e6 (by rw[cX,C4];lia) λp7 H7 s7 e7=>?_;refine⟨by show 1<=aP;decide,λp8 n8=>?_⟩;have s8:=aH (o:=.tup [.ref p7]) (af.refl H7) n8;have e8:upd H7 p8 (.tup [.ref p7]) p8=some (.tup [.ref p7]):=au;generalize upd H7 p8 (.tup [.ref p7])=H8 at s8 e8;have sB:=((s3.trans s4).trans s5).trans ((s6.trans s7).trans s8);refine D' (sB _ _ e2) e8 (by show _+1<=1000;lia) λp9 H9 s9 e9=>?_;have sC:=s2.trans (sB.trans s9);refine vr rfl (ar _ rfl ⟨_,⟨_,rfl,rfl,((c+1:Nat):Int),rfl,VN (Ee (sC _ _ ha) λpA HA NZ eA=>?_)⟩⟩);rw[Ti]at eA;refine D' (NZ _ _ e9) eA (by rw[cX,C4];lia) λpB HB Yg eB=>?_;exact q pB p7 HB (sC.trans (NZ.trans Yg)) (((s8.trans s9).trans (NZ.trans Yg)) _ _ e7) eB
  case aJ=>
   rintro σ H1 R ⟨⟨a,bh,h0,ha,h1,h4,Ad⟩,q⟩;have ne:bh≠[]:=λz=>by rw[z]at h1;simp at h1
   refine⟨qc,λp1 n1=>?_⟩;have s1:=aH (o:=.tup []) (af.refl H1) n1;have b1:sk (upd H1 p1 (.tup [])) (.ref p1):=Uz au qc (λ_ z=>by cases z) (.inl rfl);generalize upd H1 p1 (.tup [])=G1 at s1 b1;refine⟨_,⟨h0,a,5,bh,rfl,rfl,aE.of (s1 _ _ ha),ne,.inr qc,qc,cO (c9 (by show bh.length*5<=1000;lia)),λp3 n3=>?_⟩⟩;have s3:=aH (o:=.tup (dw (5:Int).toNat bh).flatten) (af.refl G1) n3;have hlen:(dw (5:Int).toNat bh).flatten.length=5*bh.length:=by rw[len_rep];rfl
   have b3:sk (upd G1 p3 (.tup (dw (5:Int).toNat bh).flatten)) (.ref p3):=Uz au (by rw[hlen];lia) (λx eN=>by
    refine ah (List.mem_flatten.mp eN) λl i9 mV=>?_;rw[aat i9]at mV;exact nX.same (s1.trans s3) (Ad x mV)) (.inr (.inl (by rw[hlen];lia)))
   generalize upd G1 p3 (.tup (dw (5:Int).toNat bh).flatten)=G2 at s3 b3;have sI:=s1.trans s3;refine ar _ h0 (dv a bh rfl (.inr (aE.of (sI _ _ ha))) λl2 n2=>?_);have s2:=aH (o:=.lst bh) (af.refl G2) n2;have b2:sk (upd G2 l2 (.lst bh)) (.ref l2):=ajY au;generalize upd G2 l2 (.lst bh)=G3 at s2 b2;refine⟨by show 3<=aP;decide,λl nl=>?_⟩;have sL:=aH (o:=.lst [.ref p1,.ref p3,.ref l2]) (af.refl G3) nl;refine q l _ _ ((sI.trans s2).trans sL) au rfl λv hv=>?_;simp only[bq,yH,or_false]at hv;rcases hv with rfl | rfl | rfl
   ·exact((b1.same s3).same s2).same sL
   ·exact(b3.same s2).same sL
   ·exact b2.same sL
  refine cG (aik hv (show cn<ps.length by lia)) λpa us hat yl Zr=>?_;have pQ:us.length=(ps.getD cn []).length:=Paired.length Zr;refine oA (Ul hg (show cn<ps.length by lia)) λg1 g2=>?_;refine gH (Dy ET hg) λG7 hM2 hF2=>?_;have Ad:∀t∈bh,nX H t:=(G7.2 bh (gZ ha)).2;refine ah (Uc (cl/21) (show 0<us.length+1 by lia)) λan han ean=>?_;refine λlk vk H1 s1 hlk hvk hkn=>?_;refine ah (Et (xs:=vk) (d:=cl) (n:=7) hvk qc) λkv apd hmk=>?_;refine oE (hkn kv hmk) λTK ZY=>?_;have CF:=s1 _ _ ha;have Xh:=s1 _ _ yl;refine vr rfl ⟨_,⟨_,rfl,rfl,(by show (0:Int)<7;decide),lk,_,_,kv,rfl,rfl,av.of hlk,apd,?_⟩⟩;refine ar _ rfl ⟨_,⟨_,rfl,rfl,⟨qc,qc⟩,_,rfl,a,bh,rfl,.inr (aE.of CF),_,_,rfl,rfl,(by show (0:Int)<bh.length;lia),DK (y:=nV cn) (by show V.int (cl/7%(bh.length:Int))=_;rw[ecn]) ?_⟩⟩;refine ar _ rfl (vr rfl (rT (aE.of CF) (hat) ?_));refine ar _ rfl ⟨_,⟨_,rfl,rfl,⟨qc,qc⟩,_,rfl,pa,us,rfl,.inr (aE.of Xh),_,_,rfl,rfl,_,_,rfl,rfl,(by show (0:Int)<(us.length:Int)+1;lia),DK (y:=nV an) (by show V.int (cl/21%((us.length:Int)+1))=_;rw[show cl/21%((us.length:Int)+1)=(an:Int) from ean]) ?_⟩⟩;refine⟨⟨pa,us,rfl,Xh,pQ⟩,λlo vs H2 s2 ux Gj aoV=>?_⟩;refine ah (Et (xs:=vs) (d:=cl/189) (n:=4) Gj qc) λo apc hmo=>?_;have ho:=aoV o hmo;refine vr rfl ⟨_,⟨_,rfl,rfl,⟨qc,qc⟩,_,_,rfl,rfl,(by show (0:Int)<4;decide),lo,_,_,o,rfl,rfl,av.of ux,apc,?_⟩⟩;have zX:=s1.trans s2;refine⟨a,pa,bh,us,cn,an,o,_,_,_,⟨_,⟨_,rfl,zX _ _ ha,zX _ _ yl,li,li,λz x H3 s3 hx hz=>?_⟩⟩⟩;have sI:=zX.trans s3;have Zh:=Kw sI;refine gH (ahH (H:=H3) hg Po (Paired.b8 hv λ_ _ q=>q.keep Zh) (show cn<ps.length by lia) (Paired.b8 Zr λ_ _ q=>q.keep Zh) (show an<=(ps.getD cn []).length by lia) (ho.same s3) hx hz) λc1 c2 c3=>?_;refine ar _ rfl (vr rfl (jh (.ref z) kv TK rfl c1 (rD (s2.trans s3) ZY) (λe=>by rw[c2]at e;cases e) λ_ xs lW=>⟨λc p hc q H4 s4 hq=>?_,λe=>by rw[c3 xs lW]at e;cases e⟩));rw[c3 xs lW]at hc;injection hc with hc
  injection hc with e1 e2
  subst e1;subst e2;refine ar _ rfl (vr rfl ⟨by show 3<=aP;decide,(λl5 n5=>?_)⟩);have s5:=aH (o:=.tup [.str "program",nV cn,nV an]) (af.refl H4) n5;have Zw:=s5 _ _ hq;have h5:upd H4 l5 (.tup [.str "program",nV cn,nV an]) l5=some (.tup [.str "program",nV cn,nV an]):=au;generalize upd H4 l5 (.tup [.str "program",nV cn,nV an])=H5 at s5 Zw h5 ⊢;refine y7 (d:=.tuple [.str "program",.int (cn:Int),.int (an:Int)]) (.tup (aE.of Zw) (.cons (.str _) (.cons (.int _) (.cons (.int _) .nil)))) (.tup (aE.of h5) (.cons (.str _) (.cons (.int _) (.cons (.int _) .nil)))) (adb _ _) (ar _ rfl (fk ?_));have uo:=sI.trans (s4.trans s5);refine ar _ rfl ⟨_,⟨_,rfl,rfl,⟨qc,qc⟩,_,_,rfl,rfl,(by show (0:Int)<3;decide),?_⟩⟩;refine⟨⟨a,bh,rfl,uo _ _ ha,li,om,λt ht=>nX.same uo (Ad t ht)⟩,λln vs5 H6 s6 gd hl5 apb=>?_⟩;refine ah (Et (xs:=vs5) (d:=cl/756) (n:=3) hl5 qc) λv hatv oJ=>?_;have hb:=apb v oJ;refine vr rfl (rL (v:=v) (av.of gd) (hatv) ?_);have s06:=uo.trans s6;refine ar _ rfl (vr rfl (jh v kv TK rfl hb.1 (rD ((s2.trans s3).trans ((s4.trans s5).trans s6)) ZY) (λ_ H7 s7=>?_) λz=>by rw[hb.2]at z;cases z));refine y7 (d:=.str "clerks") (.str _) (.str _) dk (ar _ rfl (fk ?_));have Yl:=s06.trans s7;have Gu:=ET.keep (Kw Yl);refine gH (Dy Gu hg) λd1 d2 d3=>?_;refine ar _ rfl λl8 v8 H8 s8 yr hv8 hbk=>?_;refine ah (Et (xs:=v8) (d:=cl/9) (n:=5) hv8 qc) λkb ape hmb=>?_;refine oA (hbk kb hmb) λaa hnk=>?_;refine oE aa λTB hTB=>?_;have Yk:=Yl.trans s8;refine gH (Dy (ET.keep (Kw Yk)) hg) λd1 d2 d3=>?_;refine vr rfl ⟨_,⟨_,rfl,rfl,⟨qc,qc⟩,_,_,rfl,rfl,(by show (0:Int)<5;decide),l8,_,_,kb,rfl,rfl,av.of yr,ape,?_⟩⟩;refine jh (.ref a) kb TB rfl d1 hTB (λe=>by rw[d2]at e;cases e) λ_ xs lW=>⟨λc p hc=>(by rw[d3 xs lW]at hc;cases hc),λ_=>⟨hnk,λH9 s9=>?_⟩⟩;exact Th (d:=.str "kind") (.str _) (.str _) dk (k _ (Yk.trans s9))
def t8(t:Tl):PyData:=.tuple (.str t.1::t.2.map λ(n:Nat)=>.int (n:Int))
def Na(ps:List Pt):PyData:=.tuple (ps.map λp=>.tuple (p.map t8))
theorem Rk{K:PySem.W.Frag}{H:Hp}:∀ns:List Nat,lD K H (ns.map λ(n:Nat)=>V.int (n:Int)) (ns.map λ(n:Nat)=>jf (n:Int))
 | []=>.nil
 | n::ns=>.cons (.int _) (Rk ns)
theorem jO.dat{K:PySem.W.Frag}{H:Hp}{v:V}{t:Tl}(h:jO H v t):eY K H v (t8 t):=by
 refine ah h λa aa ha=>?_;clear h;subst aa;exact .tup (aE.of ha) (.cons (.str _) (Rk t.2))
theorem qm.dat{K:PySem.W.Frag}{H:Hp}{v:V}{ps:List Pt}(h:qm H v ps):eY K H v (Na ps):=by
 refine cG h λa vs aa ha r=>?_;clear h;subst aa;refine .tup (aE.of ha) (tE (λv p hp=>?_) r);refine cG hp λb us aa hb q=>?_;clear hp;subst aa;exact .tup (aE.of hb) (tE (λv t ht=>ht.dat) q)
theorem Uw{sz:Nat}{t:Tl}(g:di sz t):(t8 t).canLay0=true/\(t8 t).depth<=3:=by
 have hw:=QS _ g.word;unfold t8;refine⟨?_,?_⟩
 ·simp only[lp,kj];rw[oX (f:=λn:Nat=>jf (n:Int)) λa _=>by simp[lp]];simp[hw]
 ·simp only[iT,lI];have:=lL (f:=λn:Nat=>jf (n:Int)) (k:=1) (l:=t.2) λa _=>by simp[iT]
  lia
theorem ajR{ps:List Pt}(g:qu ps):shaped (Na ps)=true:=by
 have h1:∀p∈ps,(QL (p.map t8)).canLay0=true/\(QL (p.map t8)).depth<=5:=λp hp=>by
  refine oA (g.part p hp) λ_ g2=>?_;refine⟨?_,?_⟩
  ·simp only[lp];exact oX λt ht=>(Uw (g2 t ht)).1
  ·simp only[iT];have:=lL (f:=t8) (k:=3) (l:=p) λt ht=>(Uw (g2 t ht)).2;exact wb
 unfold Na shaped;rw[fJ];refine⟨?_,decide_eq_true ?_⟩
 ·simp only[lp];exact oX λp hp=>(h1 p hp).1
 ·simp only[iT];have:=lL (f:=λp:Pt=>QL (p.map t8)) (k:=5) (l:=ps) λp hp=>(h1 p hp).2;exact wb
theorem DG{K:PySem.W.Frag}{H H':Hp}{a:Addr}{xs:List V}(k:aM gL H H')(h:av K H a xs):av K H' a xs:=by
 rcases h with (h | ⟨o,h⟩) | h
 ·exact .inl (.inl (k.k _ _ (λz=>z) (λps z=>by cases z) h))
 ·exact .inl (.inr ⟨o,k.k _ _ (λz=>z) (λps z=>by cases z) h⟩)
 ·exact .inr h
theorem akU{PT m C dx:Addr}{H H':Hp}{fs:List (Str×V)}(k:aY m H H')(hm:H m=some (.ins C dx fs))(h:cJ PT LP LQ H):cJ PT LP LQ H':=
 AM (F:=[m]) h (λb o n e=>k.k b o (λz=>n (by rw[z];exact gz.mpr rfl)) e) λb hb o e=>by rw[gz.mp hb,hm]at e;cases e;exact .inl ⟨_,_,_,rfl⟩
theorem aY.gm{H H1 H2:Hp}{m:Addr}(k1:aM gL H H1)(hm:H m=none)(k:aY m H1 H2):aM gL H H2:=⟨λb o n hn e=>k.k b o (λz=>by rw[z,hm]at e;cases e) (k1.k b o n hn e),λb h=>k1.t b (k.t b h)⟩
theorem three(c:Int):∃kd:Str,ir [V.str "row",V.str "name",V.str "none"] (c%3)=some (.str kd)/\(kd = "row"\/kd = "name"\/kd = "none"):=by
 have h1:0<=c%3:=sZ _ qc;have h2:c%3<3:=uJ _ qc;have:c%3=0\/c%3=1\/c%3=2:=li;rcases this with e | e | e <;> rw[e]
 ·exact ar _ rfl (.inl rfl)
 ·exact ar _ rfl (.inr (.inl rfl))
 ·exact ar _ rfl (.inr (.inr rfl))
theorem aiL{S:Mc}{mv:Mv}(h:mv∈iL S):(lS mv).length<=1000:=by
 rcases DA h with ⟨c,rfl,_⟩ | ⟨c,k,n,rfl,_⟩ <;> simp[lS]
theorem gK.mono{n m:Nat}{S:Mc}(w:gK n S)(h:n<=m):gK m S:=⟨w.wf,cu w.ac h,λo ho=>cu (w.ov o ho) h⟩
structure LM(t:aZ)(C CT:Addr)(H0 H:Hp)(kd:Str)(ps:List Pt)(n:Nat)(x:Addr)(A:MA)(S:Mc):Prop where
 M:aU t C CT H x A S
 L:∃lab,jk lab x A
 W:gK n S
 ao:xH S
 kd:S.kd=kd
 ps:S.ps=ps
 fr:∀b,bG x A b->H0 b=none
structure fq(t:aZ)(C CT PT:Addr)(H0 H:Hp)(kd:Str)(ps:List Pt)(v:V)(n:Nat)(m:Addr)(A:MA)(S:Mc)(x:Addr)(B:MA)(T:Mc):Prop where
 a:LM t C CT H0 H kd ps n m A S
 b:LM t C CT H0 H kd ps n x B T
 dj:∀b,bG x B b->¬bG m A b
 P:qm H v ps
 lam:cJ PT LP LQ H
 k:aM gL H0 H
section
variable{t:aZ}{C CT PT:Addr}{H0 H H':Hp}{kd:Str}{ps:List Pt}{v:V}{n n':Nat}{m x:Addr}{A B:MA}{S T:Mc}
theorem LM.gm(h:LM t C CT H0 H kd ps n m A S)(k:aM gL H H'):LM t C CT H0 H' kd ps n m A S:=⟨h.M.gm k,h.L,h.W,h.ao,h.kd,h.ps,h.fr⟩
theorem LM.mono(h:LM t C CT H0 H kd ps n m A S)(l:n<=n'):LM t C CT H0 H kd ps n' m A S:=⟨h.M,h.L,h.W.mono l,h.ao,h.kd,h.ps,h.fr⟩
theorem fq.gm(h:fq t C CT PT H0 H kd ps v n m A S x B T)(k:aM gL H H')(l:cJ PT LP LQ H'):fq t C CT PT H0 H' kd ps v n m A S x B T:=⟨h.a.gm k,h.b.gm k,h.dj,h.P.keep k.nu,l,h.k.trans k⟩
theorem fq.same(h:fq t C CT PT H0 H kd ps v n m A S x B T)(s:af H H'):fq t C CT PT H0 H' kd ps v n m A S x B T:=h.gm (aM.of s) (jd h.lam s)
theorem fq.mono(h:fq t C CT PT H0 H kd ps v n m A S x B T)(l:n<=n'):fq t C CT PT H0 H kd ps v n' m A S x B T:=⟨h.a.mono l,h.b.mono l,h.dj,h.P,h.lam,h.k⟩
theorem fq.swap(h:fq t C CT PT H0 H kd ps v n m A S x B T):fq t C CT PT H0 H kd ps v n x B T m A S:=⟨h.b,h.a,λb h1 h2=>h.dj b h2 h1,h.P,h.lam,h.k⟩
theorem fq.step(h:fq t C CT PT H0 H kd ps v n m A S x B T)(hn:n<15000){mv:Mv}(iD:mv∈iL S)(M':aU t C CT H' m A (jx S mv))(k:aM (bG m A) H H')(l:cJ PT LP LQ H'):fq t C CT PT H0 H' kd ps v (n+1) m A (jx S mv) x B T:=by
 have mo:=agI S mv;refine⟨⟨M',h.a.L,Kt h.a.W hn iD,mo.ok h.a.ao,mo.2.1.trans h.a.kd,mo.2.2.trans h.a.ps,h.a.fr⟩,⟨h.b.M.other h.a.M k h.dj,h.b.L,h.b.W.mono (jq _),h.b.ao,h.b.kd,h.b.ps,h.b.fr⟩,h.dj,h.P.keep (k.tup h.a.M.BH),l,⟨λb o h1 h2 e=>k.k b o (λz=>?_) h2 (h.k.k b o h1 h2 e),λb e=>h.k.t b (k.t b e)⟩⟩;rw[h.a.fr b z]at e;cases e
theorem fq.pick(h:fq t C CT PT H0 H kd ps v n m A S x B T)(b:Bool):∃x1 A1 S1 x2 A2 S2,ir [V.ref m,V.ref x] (if b then 1 else 0)=some (.ref x1)/\ir [V.ref x,V.ref m] (if b then 1 else 0)=some (.ref x2)/\fq t C CT PT H0 H kd ps v n x1 A1 S1 x2 A2 S2/\
  ∀H' n' CV,fq t C CT PT H0 H' kd ps v n' x1 A1 CV x2 A2 S2->∃S' T',fq t C CT PT H0 H' kd ps v n' m A S' x B T':=by
 cases b with
 | false=>exact⟨m,A,S,x,B,T,rfl,rfl,h,λH' n' S' z=>⟨_,_,z⟩⟩
 | true=>exact⟨x,B,T,m,A,S,rfl,rfl,h.swap,λH' n' S' z=>⟨_,_,z.swap⟩⟩
end
abbrev MV:List Stmt:=WM ((hX qy).getD 6 (.Pass ⟨0,0,0,0⟩))
theorem aek:wO "min" = some (.builtin "min"):=dk
def Fd(a k d:Int):Bool:=decide (a<=k-2)&&decide (d%2=0)
def Ww:TE:=λσ H Q=>∃a k d,σ[5]?=some (some (.int a))/\σ[6]?=some (some (.int k))/\σ[7]?=some (some (.int d))/\Q (.int (if Fd a k d then 1 else 0)) H
section
variable{t:aZ}{C CT PT:Addr}
def VB(K:W.Frag)(PT:Addr):Sp:=λvs H Q _=>∃(a:Addr) (ns:List Int),vs=[.ref a]/\av K H a (ns.map V.int)/\ns.length<=63/\cJ PT LP LQ H/\∀H',Q (.bl true) H'
abbrev NQ:List Str:=["_law_script","_law_program_here","_law_kind","_law_machine","_law_twin","_law_at","_law_k","_law_draw","_law_one_here","_law_other","_law_before_it","_law_moves"]
theorem oa:bg ["_law_script","_law_program_here","_law_kind","_law_machine","_law_twin","_law_at","_law_k","_law_draw","_law_one_here","_law_other","_law_before_it","_law_moves"] ["_law_script"] (aQ qy):=bu
theorem aky{f fC fM fP fI fR fT fS fL fMv fD Pr jR:Addr}{fd dC dM dP dI dR dT dS dL dMv dD dPk:aV}(F:aW K "law" "law" qy f fd)(gd:mg "len" = none)(iw:mg "range" = none)(aoZ:mg "min" = none)(iD:mg "int" = none)(cM:gw K C)
  (GC:aw P w K mg base az 1 fC dC zLc (UW K)) (kC:W.keepIn K (.ref fC)=true) (bC:Binds K dC zLc []) (mC:mg "_law_cell_at" = some (.ref fC))
  (GM:aw P w K mg base az 1 fM dM zLb Ey) (kM:W.keepIn K (.ref fM)=true) (bM:Binds K dM zLb []) (mM:mg "_law_mixed" = some (.ref fM))
  (GP:aw P w K mg base az 3 fP dP ["_law_cell"] TC) (kP:W.keepIn K (.ref fP)=true) (bP:Binds K dP ["_law_cell"] []) (mP:mg "_law_program" = some (.ref fP))
  (GR:aw P w K mg base az 10 fR dR zLh Vz) (kR:W.keepIn K (.ref fR)=true) (bR:Binds K dR zLh []) (mR:mg "_law_refused" = some (.ref fR))
  (mk:Mk K C fI) (GI:aw P w K mg base az 7 fI dI ["self","program","kind"] (Kb t C CT)) (BE:mg "Machine" = some (.ref C)) (b3:Binds K dI ["self","program","kind"] [])
  (GT:aw P w K mg base az 9 fT dT ["self"] (KQ t C CT)) (bT:Binds K dT ["self"] []) (mT:Meth K C "twin" fT)
  (GL:aw P w K mg base az 5 fL dL zLa (Jn K t C CT PT)) (kL:W.keepIn K (.ref fL)=true) (bL:Binds K dL zLa []) (mL:mg "_law_stand" = some (.ref fL))
  (GMv:aw P w K mg base az 4 fMv dMv ["self"] (Bd t C CT PT)) (bMv:Binds K dMv ["self"] []) (mMv:Meth K C "moves" fMv)
  (GD:aw P w K mg base (dg P w) 7 fD dD ["self","move"] (EY t C CT PT jR)) (bD:Binds K dD ["self","move"] []) (mD:Meth K C "do" fD)
  (GPk:aw P w K mg base az 2 Pr dPk zLd UQ) (kPk:W.keepIn K (.ref Pr)=true) (bPk:Binds K dPk zLd []) (mPk:mg "_law_pick" = some (.ref Pr))
  (GS:aw P w K mg base az 10 fS dS zLa (RD t C CT PT)) (kS:W.keepIn K (.ref fS)=true) (bS:Binds K dS zLa []) (mS:mg "_law_settles" = some (.ref fS)) :
  aw P w K mg base az 11 f fd ["_law_script"] (VB K PT):=by
 have CZ:=xq GD;refine F.ok oa (λvs H Q E h=>?_) λaI A outer s H vs Q E hr h=>?_
 ·refine a9 h λa ns aa _=>?_;clear h;subst aa;rfl
 ·obtain⟨a,ns,aa,hS,hlen,sq,q⟩:=h;subst aa;have hu:=hr.units;have jE:=hr.mono (show 1<=10 by decide);have sR:=hr.mono (show 2<=10 by decide);have pS:=hr.mono (show 3<=10 by decide);have nN:=hr.mono (show 4<=10 by decide);have uv:=hr.mono (show 5<=10 by decide);have OL:=hr.mono (show 7<=10 by decide);have Gq:=hr.mono (show 8<=10 by decide);have Zv:=hr.mono (show 9<=10 by decide)
  obtain⟨t4,p4,u4⟩:∃t4,eE (jj az P w K mg base NQ "law" (aQ qy) f aI A outer s H E).qE (MV.drop 7) t4/\∀(D:Ends) (σ:L2.St) (H1:Hp),(∃x1 A1 S1 x2 A2 S2 v kd ps n z1 z2 z3 z4 z7 z8 mI nK at_ k,σ=[some (.ref a),z1,z2,z3,z4,some (.int at_),some (.int k),z7,z8,some (.ref x2),some mI,nK]/\fq t C CT PT H H1 kd ps v n x1 A1 S1 x2 A2 S2/\n<64/\(∀H',aM gL H1 H'->eY K H' mI (Bh S2))/\∀H2,fq t C CT PT H H2 kd ps v n x1 A1 S1 x2 A2 S2->D.nx [some (.ref a),z1,z2,z3,z4,some (.int at_),some (.int k),z7,z8,some (.ref x2),some mI,nK] H2)->t4 D σ H1:=by
   refine ar _ (aB (cF (PW.pt (pw_and (cw Mg (a7 Ej (pv 6) ay) (pv 5) (bU _)) (pw_and1 (cw (xp hu) (dF GL uv rfl mL kL bL .nil aS (ae (pv 9) ag)) (pv 10) (bU _))))) (aB (a8 kG)) cU)) ?_;rintro D σ H1 ⟨x1,A1,S1,x2,A2,S2,v,kd,ps,n,z1,z2,z3,z4,z7,z8,mI,nK,at_,k,rfl,I,hn,He,nx⟩;refine ar _ rfl ⟨_,⟨_,rfl,rfl,_,rfl,_,_,rfl,rfl,_,rfl,cx (λ_=>?_) λ_=>fk (nx H1 I)⟩⟩;refine vr rfl (iU x2 A2 S2 n rfl I.b.M I.b.W (rh I.b.W.ac hn) I.lam λH2 w2 k2 oj qJ=>?_);refine vr rfl (y7 (qJ H2 ⟨λb xs _ e=>e,λb xs e=>e⟩) (He H2 k2) (Ic I.b.ao) ⟨_,rfl,fk ?_⟩);exact nx H2 (I.gm k2 oj)
  obtain⟨t3,p3,u3⟩:∃t3,eE (jj az P w K mg base NQ "law" (aQ qy) f aI A outer s H E).qE (MV.drop 4) t3/\∀(D:Ends) (σ:L2.St) (H1:Hp),(∃x1 A1 S1 x2 A2 S2 v kd ps n z1 z2 z3 z4 z7 mI nK at_ k c,σ=[some (.ref a),z1,z2,z3,z4,some (.int at_),some (.int k),z7,some (.ref x1),some (.ref x2),mI,nK]/\fq t C CT PT H H1 kd ps v n x1 A1 S1 x2 A2 S2/\n<60/\ir (ns.map V.int) k=some (.int c)/\∀H2 CV Yb X',fq t C CT PT H H2 kd ps v (n+1) x1 A1 CV x2 A2 S2->D.nx [some (.ref a),z1,z2,z3,z4,some (.int at_),some (.int k),z7,some (.ref x1),some (.ref x2),Yb,X'] H2)->t3 D σ H1:=by
   refine⟨_,ax (bZ (i:=10) oa.nd rfl (aR rfl) (dF GL uv rfl mL kL bL .nil aS (ae (pv 9) ag))) (ax (bZ (i:=11) oa.nd rfl (aR rfl) (jr (pv 8) cM.cl mMv GMv nN bMv .nil aS)) (ax (cF (cw (JD hu) (pv 11) (dW ag) (bU _)) (aB (dQ (iK (pv 8) cM.cl mD CZ OL bD .nil aS (ae (aT cI (pv 11) (dF GPk sR rfl mPk kPk bPk .nil aS (ae (aT cI (pv 0) (pv 6)) (ae (pv 6) (ae (cA iG rfl gd PySem.boot_len (ae (pv 11) ag)) ag))))) ag)))) cU) p4)),?_⟩;rintro D σ H1 ⟨x1,A1,S1,x2,A2,S2,v,kd,ps,n,z1,z2,z3,z4,z7,mI,nK,at_,k,c,rfl,I,hn,hat,nx⟩;refine vr rfl (iU x2 A2 S2 n rfl I.b.M I.b.W (rh I.b.W.ac wa) I.lam λH2 w2 k2 oj qJ=>?_);have I2:=I.gm k2 oj;refine a9 (id I2.a.M.obj) λkh jH Ag G2=>?_;refine vM rfl Ag (G2.ms _ dk) (jh x1 A1 S1 rfl I2.a.M I2.a.W.wf oj λH3 l ws k3 vJ nl hl pP=>?_);have I3:=I2.gm k3 vJ;have He:∀H',Kp H1 H2 H'->eY K H' w2 (Bh S2):=qJ;refine c8 _ rfl qc λle Ca=>?_;have s4:af H3 (upd H3 le (.lst [])):=aH (af.refl _) Ca;have hle:upd H3 le (.lst []) le=some (.lst []):=au;generalize upd H3 le (.lst [])=H4 at s4 hle ⊢;have I4:=I3.same s4;have Gd:aM gL H2 H4:=k3.trans (aM.of s4);refine jh l le ws rfl rfl (s4 _ _ hl) hle (ar _ rfl (EJ (λhe=>?_) λhe=>?_))
   ·have BS:0<ws.length:=List.length_pos_iff.mpr he;refine a9 (id I4.a.M.obj) λHc qY sS G4=>?_;refine oE I4.a.L λlab L=>?_;refine vM rfl sS (G4.ms _ dk) (vr rfl (vr rfl (vr rfl (qd a _ _ (.int c) rfl rfl (DG I4.k hS) hat (vr rfl (vr rfl (dv l ws rfl (.inl (av.of (s4 _ _ hl))) (⟨c,k,ws.length,rfl,BS,(λj hj=>?_)⟩))))))));have Zp:ws[j]?=some ws[j]:=bb hj;refine ah (uS pP Zp) λmv oJ aa=>?_;refine ah aa λp ep hp=>?_;have zM:=cQ oJ;have Gv:=s4 _ _ hp;refine rL (v:=.ref p) (av.of (s4 _ _ hl)) (by rw[<-ep];exact dG Zp) ⟨x1,A1,S1,p,_,lab,rfl,I4.a.M,L,I4.a.W.wf,I4.a.W.NM w5,I4.lam,Gv,Lr _,?_,λz0 e=>(by rw[<-xg e];exact yZ zM),λz0 e _ H5 M5 k5 Nj=>?_,λz _ _ _=>absurd zM (z mv rfl)⟩
    ·exact aiL zM
    have CO:=xg e;subst CO;have I5:=I4.step wa zM M5 k5 Nj;refine u4 _ _ _ (⟨x1,A1,(jx S1 mv),x2,A2,S2,v,kd,ps,(n+1),(⟨_,_,_,_,_,_,w2,_,at_,k,rfl,I5,om,(λH' k'=>He H' ⟨λb xs h0 e=>?_,λb xs e=>?_⟩),(λH6 I6=>nx H6 _ _ _ I6)⟩)⟩)
    ·refine k'.ml (k5.k b _ (λz=>?_) (λps z=>by cases z) (Gd.ml e));refine ah (I.a.M.vw z) λo e' _=>?_;rw[h0]at e';cases e'
    ·exact k'.nu _ _ (k5.tup I4.a.M.BH _ _ (Gd.nu _ _ e))
   ·exact u4 _ _ _ (⟨x1,A1,S1,x2,A2,S2,v,kd,ps,(n+1),(⟨_,_,_,_,_,_,w2,_,at_,k,rfl,(I4.mono (jq _)),om,(λH' k'=>He H' ⟨λb xs h0 e=>k'.ml (Gd.ml e),λb xs e=>k'.nu _ _ (Gd.nu _ _ e)⟩),(λH6 I6=>nx H6 _ _ _ I6)⟩)⟩)
  obtain⟨t5,p5,u5⟩:∃t5,PS (jj az P w K mg base NQ "law" (aQ qy) f aI A outer s H E).qE (MV.getD 0 (.Pass ⟨0,0,0,0⟩)) t5/\∀(D:Ends) (σ:L2.St) (H1:Hp),(∃m A1 S1 x2 A2 S2 v kd ps n z7 z8 z9 mI nK at_ k,σ=[some (.ref a),some v,some (.str kd),some (.ref m),some (.ref x2),some (.int at_),some (.int k),z7,z8,z9,mI,nK]/\fq t C CT PT H H1 kd ps v n m A1 S1 x2 A2 S2/\qu ps/\(kd = "row"\/kd = "name"\/kd = "none")/\n<64/\∀H2 x B T,fq t C CT PT H H2 kd ps v n m A1 S1 x B T->D.nx [some (.ref a),some v,some (.str kd),some (.ref m),some (.ref x),some (.int at_),some (.int k),z7,z8,z9,mI,nK] H2)->t5 D σ H1:=by
   refine⟨_,cF (cw eC (a7 Ej (pv 6) ay) (pv 5) (bU _)) (ax (bZ (i:=4) oa.nd rfl (aR rfl) (jr (pv 3) cM.cl mT GT Zv bT .nil aS)) (aB (cF (PW.pt (pw_or (cw (xp hu) (dF GL uv rfl mL kL bL .nil aS (ae (pv 4) ag)) (dF GL uv rfl mL kL bL .nil aS (ae (pv 3) ag)) (bU _)) (pw_or (cw VL (a6 (pv 4) rfl) (pv 2) (bU _)) (pw_or1 (cw (xp hu) (a6 (pv 4) rfl) (pv 1) (bU _)))))) (aB (a8 kG)) cU))) cU,?_⟩;rintro D σ H1 ⟨m,A1,S1,x2,A2,S2,v,kd,ps,n,z7,z8,z9,mI,nK,at_,k,rfl,I,hg,jF,hn,nx⟩;refine vr rfl ⟨_,⟨_,rfl,rfl,_,rfl,rfl,_,rfl,cx (λ_=>?_) λ_=>nx H1 _ _ _ I⟩⟩;refine a9 (id I.a.M.obj) λdx fs hm G=>?_;have kX:=I.a.W.wf.ov;refine vM rfl hm (G.ms _ dk) (⟨m,A1,S1,rfl,I.a.M,(by rw[I.a.kd];exact jF),I.a.W.wf.four,w6,(λH2 x B lab M2 L2' s2 fr=>?_)⟩);have I2:fq t C CT PT H H2 kd ps v n m A1 S1 x B S1:=⟨⟨I.a.M.same s2,I.a.L,I.a.W,I.a.ao,I.a.kd,I.a.ps,I.a.fr⟩,⟨M2,⟨lab,L2'⟩,I.a.W,I.a.ao,I.a.kd,I.a.ps,λb z=>I.k.t b (fr b z)⟩,IA I.a.M fr,I.P.keep λb xs e=>s2 _ _ e,jd I.lam s2,I.k.trans (aM.of s2)⟩;have j':=rh I.a.W.ac hn;refine vr rfl (iU x B S1 n rfl I2.b.M I2.b.W j' I2.lam λH3 w3 k3 vJ xZ=>?_);have I3:=I2.gm k3 vJ;refine vr rfl (iU m A1 S1 n rfl I3.a.M I3.a.W j' vJ λH4 w4 k4 zJ st4=>?_);have I4:=I3.gm k4 zJ;refine y7 (xZ H4 ⟨λb xs _ e=>k4.ml e,k4.nu⟩) (st4 H4 ⟨λb xs _ e=>e,λb xs e=>e⟩) (Ic I.a.ao) (ar _ rfl (fk ?_));refine a9 (id I4.b.M.obj) λHc qY wt G4=>?_;refine vF rfl wt cM.cl cM.kind G4.kind (vr rfl ⟨rfl,⟨_,rfl,EJ (λz=>absurd (by rw[I.a.kd]) z) λ_=>?_⟩⟩);have jX:=I4.b.M.pg;rw[I.a.ps]at jX;refine vF rfl wt cM.cl cM.program G4.program (vr rfl (y7 jX.dat I4.P.dat (ajR hg) ⟨_,rfl,fk ?_⟩));exact nx H4 _ _ _ I4
  refine⟨_,ax (bZ (i:=1) oa.nd rfl (aR rfl) (dF GP pS rfl mP kP bP .nil aS (ae (dF GC jE rfl mC kC bC .nil aS (ae (pv 0) (ae ay ag))) ag))) (ax (bZ (i:=2) oa.nd rfl (aR rfl) (aT cI (dW (ae bw (ae bw (ae bw ag)))) (a7 fg (dF GC jE rfl mC kC bC .nil aS (ae (pv 0) (ae ay ag))) ay))) (ax (cF (nk (iX (dF GR hr rfl mR kR bR .nil aS (ae (pv 1) (ae (a7 jL (dF GC jE rfl mC kC bC .nil aS (ae (pv 0) (ae ay ag))) ay) ag))))) (aB (a8 kG)) cU) (ax (bZ (i:=3) oa.nd rfl (aR rfl) (qg mk GI Gq rfl BE b3 .nil aS (ae (pv 1) (ae (pv 2) ag)))) (ax (bZ (i:=4) oa.nd rfl (aR rfl) (jr (pv 3) cM.cl mT GT Zv bT .nil aS)) (ax (bZ (i:=5) oa.nd rfl (aR rfl) (a7 fg (a7 jL (dF GC jE rfl mC kC bC .nil aS (ae (pv 0) (ae ay ag))) ay) ay)) (ax (rQ uP rfl (RI rfl iw (ae ay (ae (cA (afF rfl) rfl aoZ aek (ae (cA iG rfl gd PySem.boot_len (ae (pv 0) ag)) (ae ay ag))) ag))) (de (i:=6) oa.nd rfl (aR rfl)) (ax p5 (ax (bZ (i:=7) oa.nd rfl (aR rfl) (dF GM jE rfl mM kM bM .nil aS (ae (aT cI (pv 0) (pv 6)) (ae (pv 6) ag)))) (ax (bZ (i:=8) oa.nd rfl (aR rfl) (aT cI (dW (ae (pv 3) (ae (pv 4) ag))) (PE.imp (t':=Ww) (jg DC rfl iD Bb (ae (zm (tH Mg (a7 Ej (pv 6) ay) (pv 5) (bU _)) (vo (tH eC (a7 fg (pv 7) ay) ay (bU _)))) ag)) ?bit))) (ax (bZ (i:=9) oa.nd rfl (aR rfl) (aT cI (dW (ae (pv 4) (ae (pv 3) ag))) (PE.imp (t':=Ww) (jg DC rfl iD Bb (ae (zm (tH Mg (a7 Ej (pv 6) ay) (pv 5) (bU _)) (vo (tH eC (a7 fg (pv 7) ay) ay (bU _)))) ag)) ?bit))) p3))))) (aB (a8 (zm (dF GS hr rfl mS kS bS .nil aS (ae (pv 3) ag)) (vo (dF GS hr rfl mS kS bS .nil aS (ae (pv 4) ag)))))))))))),?_⟩
  case bit=>
   rintro σ H1 R ⟨at_,k,d,h5,h6,h7,q⟩;refine ar _ h6 ⟨_,⟨_,rfl,rfl,_,h5,_,_,rfl,rfl,_,rfl,cx (λz=>?_) λz=>.inr ⟨_,rfl,?_⟩⟩⟩
   ·refine ar _ h7 ⟨_,⟨_,rfl,rfl,(by show (0:Int)<2;decide),rfl,.inr ⟨_,rfl,?_⟩⟩⟩;unfold Fd at q;rw[decide_eq_true z,oU]at q
    have e:decide (V.int (d%2)=V.int 0)=decide (d%2=0):=by
     by_cases y:d%2=0
     ·rw[y];rfl
     ·rw[decide_eq_false y,decide_eq_false λz=>y (by injection z)]
    rw[e];exact q
   ·unfold Fd at q;rw[decide_eq_false z]at q;exact q
  refine vr rfl (⟨a,ns,0,rfl,hS,qc,(ar (vz ns 0) rfl λH1 v ps s1 hP hg h3 h8=>?_)⟩);refine ah (three (vz ns 1)) λkd ek jF=>?_;refine⟨(by show 3<=aP;decide),λq0 YO=>?_⟩;have s2:=aH (o:=.lst [.str "row",.str "name",.str "none"]) s1 YO;have zX:=aH (o:=.lst [.str "row",.str "name",.str "none"]) (af.refl H1) YO;have h0:upd H1 q0 (.lst [.str "row",.str "name",.str "none"]) q0=some (.lst [.str "row",.str "name",.str "none"]):=au;generalize upd H1 q0 (.lst [.str "row",.str "name",.str "none"])=H2 at s2 zX h0 ⊢;refine vr rfl (⟨a,ns,1,rfl,(s2.seq hS),qc,⟨_,⟨_,rfl,rfl,(by show (0:Int)<3;decide),q0,_,_,.str kd,rfl,rfl,av.of h0,ek,?_⟩⟩⟩);have G7:=hP.keep λb xs e=>zX _ _ e;refine ar _ rfl (vr rfl (⟨a,ns,1,rfl,(s2.seq hS),qc,⟨_,⟨_,rfl,rfl,⟨qc,qc⟩,v,_,ps,rfl,G7,hg,λp hp=>cu (h8 p hp) qc,λH3 s3=>⟨_,rfl,fk ?_⟩⟩⟩⟩));have Z1:=G7.keep λb xs e=>s3 _ _ e;have uq:=s2.trans s3;have vJ:=jd sq uq;refine ar _ rfl (vr rfl λm dx nm gc ne=>?_);have nm2:upd H3 dx (.own m) m=none:=by rw[aj ne.symm];exact nm
  have sa:af H3 (upd (upd H3 dx (.own m)) m (.ins C dx [])):=aH (aH (af.refl _) gc) nm2;have hm:upd (upd H3 dx (.own m)) m (.ins C dx []) m=some (.ins C dx []):=au;generalize upd (upd H3 dx (.own m)) m (.ins C dx [])=Hb at sa hm ⊢;refine oW m dx v ps kd rfl hm (Z1.keep λb xs e=>sa _ _ e) hg jF λH4 A4 lab M L ev k4 fr=>⟨rfl,?_⟩;have kb:aM gL H Hb:=aM.of (uq.trans sa);have YQ:H m=none:=uq.free nm;have Zc:=aY.gm kb YQ k4
  have I4:LM t C CT H H4 kd ps 0 m A4 (tZ kd ps):=⟨M,⟨lab,L⟩,akG hg,λa ha=>(by cases ha),rfl,rfl,λb hb=>by
   rcases fr b hb with e | e
   ·rw[e];exact YQ
   ·exact kb.t b e⟩
  have hP4:=(Z1.keep λb xs e=>sa _ _ e).keep (k4.tup hm);have zJ:=akU k4 hm (jd vJ sa);refine a9 (id M.obj) λHc qY sS G4=>?_;have kX:=I4.W.wf.ov;refine vM rfl sS (G4.ms _ dk) (⟨m,A4,(tZ kd ps),rfl,M,jF,I4.W.wf.four,w1,(λH5 x B aou M5 L5 s5 Am=>?_)⟩);have I5:fq t C CT PT H H5 kd ps v 0 m A4 (tZ kd ps) x B (tZ kd ps):=⟨I4.gm (aM.of s5),⟨M5,⟨aou,L5⟩,I4.W,I4.ao,rfl,rfl,λb z=>Zc.t b (Am b z)⟩,IA M Am,hP4.keep λb xs e=>s5 _ _ e,jd zJ s5,Zc.trans (aM.of s5)⟩;refine vr rfl (⟨a,ns,1,rfl,(DG I5.k hS),qc,⟨_,⟨_,rfl,rfl,⟨qc,qc⟩,_,_,rfl,rfl,(by show (0:Int)<40;decide),?_⟩⟩⟩);obtain⟨at_,eat⟩:∃z,z=vz ns 1/3%40:=⟨_,rfl⟩
  have Wo:(if (42:Int)<((ns.map V.int).length:Int) then (42:Int) else ((ns.map V.int).length:Int))<=42/\0<=(if (42:Int)<((ns.map V.int).length:Int) then (42:Int) else ((ns.map V.int).length:Int))/\(if (42:Int)<((ns.map V.int).length:Int) then (42:Int) else ((ns.map V.int).length:Int))<=ns.length:=by
   rw[aX]
   split <;> omega
  refine vr rfl ⟨a,⟨_,rfl,.inl (DG I5.k hS),_,_,rfl,2,_,rfl,⟨qc,qc,om,om⟩,?_⟩⟩;generalize hmm:(if (42:Int)<((ns.map V.int).length:Int) then (42:Int) else ((ns.map V.int).length:Int))=mx at Wo;refine gH Wo λx1 x2 x3=>?_;refine AW (n:=(mx-2).toNat) (λi σ H'=>∃x B S T z6 z7 z8 z9 mI nK,σ=[some (.ref a),some v,some (.str kd),some (.ref m),some (.ref x),some (.int at_),z6,z7,z8,z9,mI,nK]/\fq t C CT PT H H' kd ps v i m A4 S x B T) ⟨x,B,tZ kd ps,tZ kd ps,_,_,_,_,_,_,(by rw[eat];rfl),I5⟩ ?_ ?_
  ·rintro i σ H6 hi ⟨y,B6,S6,T6,z6,z7,z8,z9,mI,nK,rfl,I6⟩;have dB:2+i<ns.length:=om;obtain⟨c,hc⟩:∃c,ns[2+i]?=some c:=⟨_,bb dB⟩
   have hat:ir (ns.map V.int) (2+(i:Int))=some (.int c):=by
    have e:(2+(i:Int))=((2+i:Nat):Int):=om;rw[e];exact dG (by rw[fw,hc];rfl)
   refine u5 _ _ _ (⟨m,A4,S6,y,B6,T6,v,kd,ps,i,(⟨_,_,_,_,_,at_,(2+(i:Int)),rfl,I6,hg,jF,om,(λH7 x7 B7 T7 I7=>?_)⟩)⟩);refine ar _ rfl (vr rfl (qd a _ _ (.int c) rfl rfl (DG I7.k hS) hat (vr rfl (eW c (2+(i:Int)) rfl ?_))));generalize Bs c (2+(i:Int))=d;obtain⟨y1,A1,S1,y2,A2,S2,at1,at2,I8,back⟩:=I7.pick (Fd at_ (2+(i:Int)) d);refine ar _ rfl (vr rfl ⟨by show 2<=aP;decide,(λl8 n8=>?_)⟩);have s8:af H7 (upd H7 l8 (.lst [.ref m,.ref x7])):=aH (af.refl _) n8;have yr:upd H7 l8 (.lst [.ref m,.ref x7]) l8=some (.lst [.ref m,.ref x7]):=au;generalize upd H7 l8 (.lst [.ref m,.ref x7])=H8 at s8 yr ⊢;refine⟨at_,(2+(i:Int)),d,rfl,rfl,rfl,(rL (v:=.ref y1) (av.of yr) (at1) ?_)⟩;refine ar _ rfl (vr rfl ⟨by show 2<=aP;decide,(λl9 n9=>?_)⟩);have s9:af H8 (upd H8 l9 (.lst [.ref x7,.ref m])):=aH (af.refl _) n9;have OR:upd H8 l9 (.lst [.ref x7,.ref m]) l9=some (.lst [.ref x7,.ref m]):=au;generalize upd H8 l9 (.lst [.ref x7,.ref m])=H9 at s9 OR ⊢;refine⟨at_,(2+(i:Int)),d,rfl,rfl,rfl,(rL (v:=.ref y2) (av.of OR) (at2) ?_)⟩;refine u3 _ _ _ (⟨y1,A1,S1,y2,A2,S2,v,kd,ps,i,(⟨_,_,_,_,_,_,_,at_,(2+(i:Int)),c,rfl,(I8.same (s8.trans s9)),om,hat,(λAr CV Yb X' I10=>?_)⟩)⟩);refine xO (back Ar (i+1) CV I10) λS' T' I11=>?_;exact⟨x7,B7,S',T',_,_,_,_,_,(ar _ rfl I11)⟩
  ·rintro σ H6 ⟨y,B6,S6,T6,z6,z7,z8,z9,mI,nK,rfl,I6⟩;refine oE I6.a.L λaot LA=>?_;refine oE I6.b.L λaos LB=>?_;refine vr rfl (cY m A4 S6 aot (⟨_,rfl,I6.a.M,LA,I6.a.W,om,I6.a.ao,(by rw[I6.a.kd];exact jF),I6.lam,(λH7 k7 aor=>⟨_,rfl,iM ?_⟩)⟩));have M7:=I6.b.M.other I6.a.M k7 I6.dj;exact vr rfl (cY y B6 T6 aos (⟨_,rfl,M7,LB,I6.b.W,om,I6.b.ao,(by rw[I6.b.kd];exact jF),aor,(λH8 _ _=>q H8)⟩))
end
end TL
namespace TL
open PySem PySem.Spec PyProof.Rows PySem.SeqAt L2 L3
theorem V2{us:List Value}(h:us.length=1):∃a,us=[a]:=PZ.mp h
theorem E7{us:List Value}{n:Nat}(h:us.length=n+1):∃a l,us=a::l/\l.length=n:=by
 cases us with
 | nil=>cases h
 | cons a l=>exact⟨a,l,rfl,Ip h⟩
theorem V1{us:List Value}(h:us.length=2):∃a b,us=[a,b]:=a9 (E7 h) λa _ e h=>oE (V2 h) λb z=>⟨a,b,by rw[e,z]⟩
theorem V0{us:List Value}(h:us.length=3):∃a b c,us=[a,b,c]:=a9 (E7 h) λa _ e h=>xO (V1 h) λb c z=>⟨a,b,c,by rw[e,z]⟩
theorem VZ{us:List Value}(h:us.length=4):∃a b c d,us=[a,b,c,d]:=a9 (E7 h) λa _ e h=>MT (V0 h) λb c d z=>⟨a,b,c,d,by rw[e,z]⟩
theorem aqa{us:List Value}(h:us.length=5):∃a b c d e,us=[a,b,c,d,e]:=a9 (E7 h) λa _ e h=>Mh (VZ h) λb c d f z=>⟨a,b,c,d,f,by rw[e,z]⟩
abbrev xU(x q:Str)(st:Stmt)(ps:List Str):Prop:=∀(kV doc pm:Value) (an:Option Addr) (aI ct:Value) (us:List Value),us.length=ps.length->va (W.fnOf x q (ma st) (hX st) (aQ st) .none kV doc pm an aI ct) ⟨us,[]⟩=pure (ps.zip us)
section
variable{K:W.Frag}{h:Heap}{mg:Str->Option Value}{x q m:Str}{st:Stmt}{f c e:Addr}
theorem i5(X:K.In h)(G:h.Ns fQ mg)(p:fN K x)(l:HT.br K (gN K x)=fp x x st)(ps:List Str)(hb:xU x x st ps):∃fd,aW K x x st (gN K x) fd/\W.keepIn K (.ref (gN K x))=true/\Binds K fd ps []/\mg x=some (.ref (gN K x)):=by
 obtain⟨oc,od,kV,dc,pm,an,cd,ct,sl,l1,c1⟩:=HT.tT l p.2.1;have F:=Vc (st:=st) l1 c1 p.2.2;exact⟨_,F,p.2.2,F.binds hb,W.mg_of X G (HT.jP p.1)⟩
theorem dm(p:fM K c m q)(l:HT.br K (gM K c m)=fp m q st)(ps:List Str)(hb:xU m q st ps):∃fd,aW K m q st (gM K c m) fd/\Binds K fd ps []/\Meth K c m (gM K c m):=by
 obtain⟨oc,od,kV,dc,pm,an,cd,ct,sl,l1,c1⟩:=HT.tT l p.2.1;have F:=Vc (st:=st) l1 c1 p.2.2.1;exact⟨_,F,F.binds hb,HT.jP p.1,p.2.2.2,p.2.2.1⟩
theorem aoa(p:fM K c m q)(l:HT.br K (gM K c m)=fp m q st)(ci:HT.Fc K (gM K c m)=true)(ps:List Str)(hb:xU m q st ps):∃fd,vI K m q st (gM K c m) fd (HT.zF K (gM K c m))/\Binds K fd ps []/\Meth K c m (gM K c m):=by
 obtain⟨oc,od,kV,dc,pm,an,ct,sl,l1,c1⟩:=HT.alc l p.2.1 ci;have F:=aiZ (st:=st) l1 c1 p.2.2.1;exact⟨_,F,F.fun.binds hb,HT.jP p.1,p.2.2.2,p.2.2.1⟩
theorem mkD{d:Str}(p:fM K c m q)(l:HT.E9 K (gM K c m)=fp m q st)(df:HT.Fb K (gM K c m) d=true):∃fd,vH K m q st (gM K c m) fd d:=by
 obtain⟨oc,od,T,kV,dc,pm,an,cd,ct,sl,c1,d1,n1,sG,tk,e1,e2,e3⟩:=HT.ala l p.2.1 df;exact⟨_,⟨⟨oc,od,T,kV,dc,pm,an,cd,ct,sl,c1,d1,n1,sG,tk,rfl,e1,e2,e3⟩,p.2.2.1⟩⟩
theorem su(X:K.In h)(G:h.Ns fQ mg)(p:cK K x):eh K (gN K x)/\mg x=some (.ref (gN K x)):=⟨⟨p.2.1,p.2.2.1,p.2.2.2.1,p.2.2.2.2⟩,W.mg_of X G (HT.jP p.1)⟩
theorem Fy(p:xF K c e):Vp K c e:=⟨⟨p.1,p.2.1⟩,p.2.2.1,p.2.2.2.1,p.2.2.2.2.1,p.2.2.2.2.2⟩
end
def Vq(l:W.OpenLaw)(w:World)(K:W.Frag)(mg:Str->Option Value)(fa:Addr):Prop:=
  ∃fd:aV,(∀(s:Shared) (v:Value),BindsTo s fd ⟨[v],[]⟩ [("_law_script",v)])/\(∃c,W.codeHdIn K c 406=true)/\∀base:Heap,K.In base->base.Ns fQ mg->ub mg base->aw l.prog w K mg base az 11 fa fd ["_law_script"] (VB K 406)
theorem sL9{K:W.Frag}(E:seen K=true)(i:Nat){b:Bool}(h:(NK K ())[i]?=some b):b=true:=yI.mp E b (cQ h)
section
variable{K:W.Frag}(E:seen K=true)
theorem ai{K:W.Frag}(E:seen K=true)(i:Nat){p:Prop}{d:Decidable p}(h:(NK K ())[i]?=some (@decide p d)):p:=@of_decide_eq_true p d (sL9 E i h)
def ahd:=ai E 0 rfl
def ag9:=ai E 1 rfl
def ahe:=ai E 2 rfl
def ahb:=ai E 3 rfl
def ahg:=ai E 4 rfl
def ahc:=ai E 5 rfl
def ahh:=ai E 6 rfl
def aha:=ai E 7 rfl
def ahf:=ai E 8 rfl
def ag':=ai E 9 rfl
def aeg:=ai E 10 rfl
def afr:=ai E 11 rfl
def RZ:=ai E 12 rfl
def acv:=ai E 13 rfl
def ady:=ai E 14 rfl
def abU:=ai E 15 rfl
def afs:=ai E 16 rfl
def Sa:=ai E 17 rfl
def acx:=ai E 18 rfl
def adz:=ai E 19 rfl
def acy:=ai E 20 rfl
def afq:=ai E 21 rfl
def RY:=ai E 22 rfl
def acu:=ai E 23 rfl
def ac6:=ai E 24 rfl
def adx:=ai E 25 rfl
def aei:=ai E 26 rfl
def Rj:=ai E 27 rfl
def abV:=ai E 28 rfl
def ac7:=ai E 29 rfl
def acw:=ai E 30 rfl
def aef:=ai E 31 rfl
def Rh:=ai E 32 rfl
def abR:=ai E 33 rfl
def ac4:=ai E 34 rfl
def acr:=ai E 35 rfl
def aeh:=ai E 36 rfl
def Ri:=ai E 37 rfl
def abT:=ai E 38 rfl
def ac5:=ai E 39 rfl
def abS:=ai E 40 rfl
def adw:=ai E 41 rfl
def QW:=ai E 42 rfl
def abp:=ai E 43 rfl
def aee:=ai E 44 rfl
def Rg:=ai E 45 rfl
def acq:=ai E 46 rfl
def acp:=ai E 47 rfl
def abo:=ai E 48 rfl
def aco:=ai E 49 rfl
def Qu:=ai E 50 rfl
def aaW:=ai E 51 rfl
def aaI:=ai E 52 rfl
def aa9:=ai E 53 rfl
def aaX:=ai E 54 rfl
def aaL:=ai E 55 rfl
def aaM:=ai E 56 rfl
def aa8:=ai E 57 rfl
def aaY:=ai E 58 rfl
def aa':=ai E 59 rfl
def aaN:=ai E 60 rfl
def ald:=ai E 61 rfl
def alg:=ai E 62 rfl
def ale:=ai E 63 rfl
def alf:=ai E 64 rfl
def LG:=ai E 65 rfl
def JJ:=ai E 66 rfl
def JL:=ai E 67 rfl
def JI:=ai E 68 rfl
def Jd:=ai E 69 rfl
def Jb:=ai E 70 rfl
def Jc:=ai E 71 rfl
def qh:=ai E 72 rfl
def aft:=ai E 73 rfl
def afu:=ai E 74 rfl
def ajA:=ai E 75 rfl
def ajB:=ai E 76 rfl
def ajy:=ai E 77 rfl
def Kz:=ai E 78 rfl
def ajn:=ai E 79 rfl
def ajj:=ai E 80 rfl
def ajk:=ai E 81 rfl
def ahw:=ai E 82 rfl
def Us:=ai E 83 rfl
def ajh:=ai E 84 rfl
def ajl:=ai E 85 rfl
def ajm:=ai E 86 rfl
def ajg:=ai E 87 rfl
def aji:=ai E 88 rfl
def JK:=ai E 89 rfl
def afv:=ai E 90 rfl
def ajM:=ai E 91 rfl
def ajv:=ai E 92 rfl
def ajJ:=ai E 93 rfl
def ajx:=ai E 94 rfl
def ajF:=ai E 95 rfl
def ajE:=ai E 96 rfl
def ajD:=ai E 97 rfl
def ajG:=ai E 98 rfl
def ajC:=ai E 99 rfl
def ajI:=ai E 100 rfl
def ajK:=ai E 101 rfl
def aju:=ai E 102 rfl
def ajp:=ai E 103 rfl
def ajw:=ai E 104 rfl
def ajf:=ai E 105 rfl
def ajq:=ai E 106 rfl
def ajr:=ai E 107 rfl
def aje:=ai E 108 rfl
def ajL:=ai E 109 rfl
def ajH:=ai E 110 rfl
def ajt:=ai E 111 rfl
def ajs:=ai E 112 rfl
def ajz:=ai E 113 rfl
def ajo:=ai E 114 rfl
def ahj:=ai E 115 rfl
def ahu:=ai E 116 rfl
def ahs:=ai E 117 rfl
def ahl:=ai E 118 rfl
def ahq:=ai E 119 rfl
def ahr:=ai E 120 rfl
def ahp:=ai E 121 rfl
def ahn:=ai E 122 rfl
def ahm:=ai E 123 rfl
def aht:=ai E 124 rfl
def aho:=ai E 125 rfl
def ahk:=ai E 126 rfl
def abr:=ai E 127 rfl
def abt:=ai E 128 rfl
def abq:=ai E 129 rfl
def abb:=ai E 130 rfl
def aba:=ai E 131 rfl
def aej:=ai E 132 rfl
def afo:=ai E 133 rfl
def afp:=ai E 134 rfl
def aaO:=ai E 135 rfl
def abk:=ai E 136 rfl
def ag7:=ai E 137 rfl
def ae9:=ai E 138 rfl
def ag4:=ai E 139 rfl
def ad6:=ai E 140 rfl
def ag6:=ai E 141 rfl
def ag8:=ai E 142 rfl
def ag3:=ai E 143 rfl
def abD:=ai E 144 rfl
def ad7:=ai E 145 rfl
def ae8:=ai E 146 rfl
def ag5:=ai E 147 rfl
def adl:=ai E 148 rfl
def ahi:=ai E 149 rfl
def aed:=ai E 150 rfl
def abQ:=ai E 151 rfl
def ac0:=ai E 152 rfl
def adt:=ai E 153 rfl
def adv:=ai E 154 rfl
def adu:=ai E 155 rfl
def Ky:=ai E 156 rfl
def Kx:=ai E 157 rfl
def aeb:=ai E 158 rfl
def ad9:=ai E 159 rfl
def acT:=ai E 160 rfl
def acU:=ai E 161 rfl
def acS:=ai E 162 rfl
def acg:=ai E 163 rfl
def ace:=ai E 164 rfl
def acf:=ai E 165 rfl
def aec:=ai E 166 rfl
def ad':=ai E 167 rfl
def acW:=ai E 168 rfl
def acX:=ai E 169 rfl
def acV:=ai E 170 rfl
def acn:=ai E 171 rfl
def ack:=ai E 172 rfl
def acm:=ai E 173 rfl
def aea:=ai E 174 rfl
def ad8:=ai E 175 rfl
def acQ:=ai E 176 rfl
def acR:=ai E 177 rfl
def acP:=ai E 178 rfl
def acd:=ai E 179 rfl
def aca:=ai E 180 rfl
def acb:=ai E 181 rfl
def ads:=ai E 182 rfl
def ado:=ai E 183 rfl
def aci:=ai E 184 rfl
def acj:=ai E 185 rfl
def ach:=ai E 186 rfl
def abM:=ai E 187 rfl
def abK:=ai E 188 rfl
def abL:=ai E 189 rfl
def adp:=ai E 190 rfl
def adm:=ai E 191 rfl
def ab6:=ai E 192 rfl
def ab7:=ai E 193 rfl
def ab5:=ai E 194 rfl
def abG:=ai E 195 rfl
def abE:=ai E 196 rfl
def abF:=ai E 197 rfl
def acZ:=ai E 198 rfl
def acY:=ai E 199 rfl
def abO:=ai E 200 rfl
def abP:=ai E 201 rfl
def abN:=ai E 202 rfl
def abn:=ai E 203 rfl
def abl:=ai E 204 rfl
def abm:=ai E 205 rfl
def adq:=ai E 206 rfl
def adn:=ai E 207 rfl
def ab9:=ai E 208 rfl
def ab':=ai E 209 rfl
def ab8:=ai E 210 rfl
def abJ:=ai E 211 rfl
def abH:=ai E 212 rfl
def abI:=ai E 213 rfl
def ai8:=ai E 214 rfl
def ahv:=ai E 215 rfl
def ai5:=ai E 216 rfl
def ai9:=ai E 217 rfl
def Ur:=ai E 218 rfl
def Uq:=ai E 219 rfl
def ai':=ai E 220 rfl
def ajd:=ai E 221 rfl
def ai7:=ai E 222 rfl
def ai4:=ai E 223 rfl
def ai6:=ai E 224 rfl
def ajc:=ai E 225 rfl
def ajb:=ai E 226 rfl
def aja:=ai E 227 rfl
def afk:=ai E 228 rfl
def afh:=ai E 229 rfl
def afn:=ai E 230 rfl
def afj:=ai E 231 rfl
def afg:=ai E 232 rfl
def afm:=ai E 233 rfl
def afi:=ai E 234 rfl
def aff:=ai E 235 rfl
def afl:=ai E 236 rfl
def afc:=ai E 237 rfl
def afe:=ai E 238 rfl
def afa:=ai E 239 rfl
def afb:=ai E 240 rfl
def afd:=ai E 241 rfl
def ae':=ai E 242 rfl
end
theorem bz{K:W.Frag}(E:qp K=pq)(i:Nat){a b:Option HT.qI}(h:(qp K)[i]?=some a)(g:pq[i]?=some b):a=b:=by rw[E,g]at h;exact(iz h).symm
theorem gJ{x q:Str}{st:Stmt}{ps:List Str}(l:ps.length=1)(h:∀(kV doc pm:Value) (an:Option Addr) (aI ct:Value) (u0:Value),va (W.fnOf x q (ma st) (hX st) (aQ st) .none kV doc pm an aI ct) ⟨[u0],[]⟩=pure (ps.zip [u0])):xU x q st ps:=by
 intro k1 k2 k3 k4 k5 k6 us hl;obtain⟨u0,e⟩:=V2 (hl.trans l);subst e;exact h k1 k2 k3 k4 k5 k6 u0
theorem gI{x q:Str}{st:Stmt}{ps:List Str}(l:ps.length=2)(h:∀(kV doc pm:Value) (an:Option Addr) (aI ct:Value) (u0 u1:Value),va (W.fnOf x q (ma st) (hX st) (aQ st) .none kV doc pm an aI ct) ⟨[u0,u1],[]⟩=pure (ps.zip [u0,u1])):xU x q st ps:=by
 intro k1 k2 k3 k4 k5 k6 us hl;obtain⟨u0,u1,e⟩:=V1 (hl.trans l);subst e;exact h k1 k2 k3 k4 k5 k6 u0 u1
theorem ui{x q:Str}{st:Stmt}{ps:List Str}(l:ps.length=3)(h:∀(kV doc pm:Value) (an:Option Addr) (aI ct:Value) (u0 u1 u2:Value),va (W.fnOf x q (ma st) (hX st) (aQ st) .none kV doc pm an aI ct) ⟨[u0,u1,u2],[]⟩=pure (ps.zip [u0,u1,u2])):xU x q st ps:=by
 intro k1 k2 k3 k4 k5 k6 us hl;obtain⟨u0,u1,u2,e⟩:=V0 (hl.trans l);subst e;exact h k1 k2 k3 k4 k5 k6 u0 u1 u2
theorem bn4{x q:Str}{st:Stmt}{ps:List Str}(l:ps.length=4)(h:∀(kV doc pm:Value) (an:Option Addr) (aI ct:Value) (u0 u1 u2 u3:Value),va (W.fnOf x q (ma st) (hX st) (aQ st) .none kV doc pm an aI ct) ⟨[u0,u1,u2,u3],[]⟩=pure (ps.zip [u0,u1,u2,u3])):xU x q st ps:=by
 intro k1 k2 k3 k4 k5 k6 us hl;obtain⟨u0,u1,u2,u3,e⟩:=VZ (hl.trans l);subst e;exact h k1 k2 k3 k4 k5 k6 u0 u1 u2 u3
theorem facts{l:W.OpenLaw}{w:World}{K:W.Frag}{h:Heap}{mg:Str->Option Value}{fa:Addr}(E:(seen K,qp K)=(true,pq))(X:K.In h)(G:h.Ns fQ mg)(hfa:mg "law" = some (.ref fa)):Vq l w K mg fa:=by
 have hb:=(wQ E).1;have hl:=(wQ E).2;refine gi (i5 X G (ald hb) (bz hl 0 rfl rfl) ["thing"] (gJ rfl λ_ _ _ _ _ _ _=>rfl)) λkU FW kW bW gW=>?_;refine gi (i5 X G (alg hb) (bz hl 1 rfl rfl) ["word"] (gJ rfl λ_ _ _ _ _ _ _=>rfl)) λow FB kB bB gB=>?_;refine gi (i5 X G (ale hb) (bz hl 2 rfl rfl) ["told"] (gJ rfl λ_ _ _ _ _ _ _=>rfl)) λou FS kS bS gS=>?_;refine gi (i5 X G (alf hb) (bz hl 3 rfl rfl) ["told"] (gJ rfl λ_ _ _ _ _ _ _=>rfl)) λue FO kO bO gO=>?_;refine aL (dm (LG hb) (bz hl 4 rfl rfl) ["self","told"] (gI rfl λ_ _ _ _ _ _ _ _=>rfl)) λdY FI bI MI=>?_;refine aL (dm (JJ hb) (bz hl 5 rfl rfl) ["self","told"] (gI rfl λ_ _ _ _ _ _ _ _=>rfl)) λEL apR NC XD=>?_;refine aL (dm (JL hb) (bz hl 6 rfl rfl) ["self","told"] (gI rfl λ_ _ _ _ _ _ _ _=>rfl)) λEM ap3 NF XG=>?_;refine aL (dm (JI hb) (bz hl 7 rfl rfl) ["self","told"] (gI rfl λ_ _ _ _ _ _ _ _=>rfl)) λEK apQ NB XA=>?_;refine aL (dm (Jd hb) (bz hl 8 rfl rfl) ["self","told"] (gI rfl λ_ _ _ _ _ _ _ _=>rfl)) λEs anL MH Wu=>?_;refine aL (dm (Jb hb) (bz hl 9 rfl rfl) ["self","told"] (gI rfl λ_ _ _ _ _ _ _ _=>rfl)) λEp anI MF Ws=>?_;refine aL (dm (Jc hb) (bz hl 10 rfl rfl) ["self","told"] (gI rfl λ_ _ _ _ _ _ _ _=>rfl)) λEr anK MG Wt=>?_;refine aL (dm (qh hb) (bz hl 11 rfl rfl) ["self"] (gJ rfl λ_ _ _ _ _ _ _=>rfl)) λMX FEm xV MEm=>?_;refine aL (dm (aft hb) (bz hl 12 rfl rfl) ["self"] (gJ rfl λ_ _ _ _ _ _ _=>rfl)) λLD anJ My anD=>?_;refine aL (dm (afu hb) (bz hl 13 rfl rfl) ["self"] (gJ rfl λ_ _ _ _ _ _ _=>rfl)) λLF anM Mz anE=>?_;refine gi (i5 X G (ajA hb) (bz hl 14 rfl rfl) ["program"] (gJ rfl λ_ _ _ _ _ _ _=>rfl)) λaqZ FHC kHC bHC gHC=>?_;refine gi (i5 X G (ajB hb) (bz hl 15 rfl rfl) ["told","place","length"] (ui rfl λ_ _ _ _ _ _ _ _ _=>rfl)) λaq0 FFI kFI bFI gFI=>?_;refine gi (i5 X G (ajy hb) (bz hl 16 rfl rfl) ["program"] (gJ rfl λ_ _ _ _ _ _ _=>rfl)) λaqX FLO Y9 bLO Z'=>?_;refine aL (dm (Kz hb) (bz hl 17 rfl rfl) ["self","kind"] (gI rfl λ_ _ _ _ _ _ _ _=>rfl)) λaqI FTI bTI MTI=>?_;refine aL (dm (ajn hb) (bz hl 18 rfl rfl) ["self","name","number","deed"] (bn4 rfl λ_ _ _ _ _ _ _ _ _ _=>rfl)) λaqM FTA bTA MTA=>?_;refine aL (dm (ajj hb) (bz hl 19 rfl rfl) ["self","name"] (gI rfl λ_ _ _ _ _ _ _ _=>rfl)) λaqH FTL bTL MTL=>?_;refine aL (aoa (ajk hb) (bz hl 20 rfl rfl) (ahw hb) ["self"] (gJ rfl λ_ _ _ _ _ _ _=>rfl)) λaqJ FTF bTF MTF=>?_;refine aL (dm (ajh hb) (bz hl 21 rfl rfl) ["self","name"] (gI rfl λ_ _ _ _ _ _ _ _=>rfl)) λaqF FTT bTT MTT=>?_;refine aL (dm (ajl hb) (bz hl 22 rfl rfl) ["self"] (gJ rfl λ_ _ _ _ _ _ _=>rfl)) λaqK FTE bTE MTE=>?_;refine aL (dm (ajm hb) (bz hl 23 rfl rfl) ["self"] (gJ rfl λ_ _ _ _ _ _ _=>rfl)) λaqL FTD bTD MTD=>?_;refine aL (dm (ajg hb) (bz hl 24 rfl rfl) ["self"] (gJ rfl λ_ _ _ _ _ _ _=>rfl)) λaqE FTW bTW MTW=>?_;refine gi (i5 X G (aji hb) (bz hl 25 rfl rfl) ["kind"] (gJ rfl λ_ _ _ _ _ _ _=>rfl)) λaqG FTO Y8 bTO Z9=>?_;refine oE (mkD (JK hb) (bz hl 26 rfl rfl) (afv hb)) λaqh NH=>?_;refine aL (dm (ajM hb) (bz hl 27 rfl rfl) ["self","clerk"] (gI rfl λ_ _ _ _ _ _ _ _=>rfl)) λara FAE bAE MAE=>?_;refine aL (dm (ajv hb) (bz hl 28 rfl rfl) ["self","clerk"] (gI rfl λ_ _ _ _ _ _ _ _=>rfl)) λaqU FMY bMY MMY=>?_;refine aL (dm (ajJ hb) (bz hl 29 rfl rfl) ["self"] (gJ rfl λ_ _ _ _ _ _ _=>rfl)) λaq8 FCR bCR MCR=>?_;refine aL (dm (ajx hb) (bz hl 30 rfl rfl) ["self"] (gJ rfl λ_ _ _ _ _ _ _=>rfl)) λaqW FMV Hf MMV=>?_;refine aL (dm (ajF hb) (bz hl 31 rfl rfl) ["self","move"] (gI rfl λ_ _ _ _ _ _ _ _=>rfl)) λaq4 FDO Pz MDO=>?_;refine aL (dm (ajE hb) (bz hl 32 rfl rfl) ["self","clerk"] (gI rfl λ_ _ _ _ _ _ _ _=>rfl)) λaq3 FDS bDS MDS=>?_;refine aL (dm (ajD hb) (bz hl 33 rfl rfl) ["self","clerk","step"] (ui rfl λ_ _ _ _ _ _ _ _ _=>rfl)) λaq2 FDT bDT MDT=>?_;refine aL (dm (ajG hb) (bz hl 34 rfl rfl) ["self","clerk","step"] (ui rfl λ_ _ _ _ _ _ _ _ _=>rfl)) λaq5 FDL bDL MDL=>?_;refine aL (dm (ajC hb) (bz hl 35 rfl rfl) ["self","clerk","step"] (ui rfl λ_ _ _ _ _ _ _ _ _=>rfl)) λaq1 FDW bDW MDW=>?_;refine aL (dm (ajI hb) (bz hl 36 rfl rfl) ["self","clerk","name"] (ui rfl λ_ _ _ _ _ _ _ _ _=>rfl)) λaq7 FCY bCY MCY=>?_;refine aL (dm (ajK hb) (bz hl 37 rfl rfl) ["self","setting"] (gI rfl λ_ _ _ _ _ _ _ _=>rfl)) λaq9 FCM bCM MCM=>?_;refine aL (dm (aju hb) (bz hl 38 rfl rfl) ["self","name"] (gI rfl λ_ _ _ _ _ _ _ _=>rfl)) λaqT FOB bOB MOB=>?_;refine aL (dm (ajp hb) (bz hl 39 rfl rfl) ["self"] (gJ rfl λ_ _ _ _ _ _ _=>rfl)) λaqO FSE bSE MSE=>?_;refine aL (dm (ajw hb) (bz hl 40 rfl rfl) ["self"] (gJ rfl λ_ _ _ _ _ _ _=>rfl)) λaqV FMW bMW MMW=>?_;refine aL (dm (ajf hb) (bz hl 41 rfl rfl) ["self","clerk"] (gI rfl λ_ _ _ _ _ _ _ _=>rfl)) λaqD FWH bWH MWH=>?_;refine aL (dm (ajq hb) (bz hl 42 rfl rfl) ["self","clerk"] (gI rfl λ_ _ _ _ _ _ _ _=>rfl)) λaqP FSD bSD MSD=>?_;refine aL (dm (ajr hb) (bz hl 43 rfl rfl) ["self","clerk"] (gI rfl λ_ _ _ _ _ _ _ _=>rfl)) λaqQ FRG bRG MRG=>?_;refine aL (dm (aje hb) (bz hl 44 rfl rfl) ["self","clerk"] (gI rfl λ_ _ _ _ _ _ _ _=>rfl)) λaqC FWT bWT MWT=>?_;refine aL (dm (ajL hb) (bz hl 45 rfl rfl) ["self"] (gJ rfl λ_ _ _ _ _ _ _=>rfl)) λaq' FBO bBO MBO=>?_;refine aL (dm (ajH hb) (bz hl 46 rfl rfl) ["self"] (gJ rfl λ_ _ _ _ _ _ _=>rfl)) λaq6 FDE bDE MDE=>?_;refine aL (dm (ajt hb) (bz hl 47 rfl rfl) ["self","name"] (gI rfl λ_ _ _ _ _ _ _ _=>rfl)) λaqS FOV bOV MOV=>?_;refine gi (i5 X G (ajs hb) (bz hl 48 rfl rfl) ["step","place","regs"] (ui rfl λ_ _ _ _ _ _ _ _ _=>rfl)) λaqR FPB kPB bPB gPB=>?_;refine gi (i5 X G (ajz hb) (bz hl 49 rfl rfl) ["move"] (gJ rfl λ_ _ _ _ _ _ _=>rfl)) λaqY FHF kHF bHF gHF=>?_;refine gi (i5 X G (ajo hb) (bz hl 50 rfl rfl) ["part"] (gJ rfl λ_ _ _ _ _ _ _=>rfl)) λaqN FSO kSO bSO gSO=>?_;refine aL (dm (ahj hb) (bz hl 51 rfl rfl) ["self","clerk","place"] (ui rfl λ_ _ _ _ _ _ _ _ _=>rfl)) λaqg apS apw XE=>?_;refine gi (i5 X G (ahu hb) (bz hl 52 rfl rfl) zLc (gI rfl λ_ _ _ _ _ _ _ _=>rfl)) λaqr ap2 aoD apE apt=>?_;refine gi (i5 X G (ahs hb) (bz hl 53 rfl rfl) zLb (gI rfl λ_ _ _ _ _ _ _ _=>rfl)) λaqp ap0 Nk ND Nz=>?_;refine gi (i5 X G (ahl hb) (bz hl 54 rfl rfl) zLe (gI rfl λ_ _ _ _ _ _ _ _=>rfl)) λaqi apT aow apx apl=>?_;refine gi (i5 X G (ahq hb) (bz hl 55 rfl rfl) zLd (ui rfl λ_ _ _ _ _ _ _ _ _=>rfl)) λaqn apY aoA apB apq=>?_;refine gi (i5 X G (ahr hb) (bz hl 56 rfl rfl) zLf (ui rfl λ_ _ _ _ _ _ _ _ _=>rfl)) λaqo apZ aoB apC apr=>?_;refine gi (i5 X G (ahp hb) (bz hl 57 rfl rfl) ["_law_cell"] (gJ rfl λ_ _ _ _ _ _ _=>rfl)) λaqm apX aoz apA apo=>?_;refine gi (i5 X G (ahn hb) (bz hl 58 rfl rfl) zLa (gJ rfl λ_ _ _ _ _ _ _=>rfl)) λaqk apV W6 Xz Xy=>?_;refine gi (i5 X G (ahm hb) (bz hl 59 rfl rfl) zLa (gJ rfl λ_ _ _ _ _ _ _=>rfl)) λaqj apU aox apy apm=>?_;refine gi (i5 X G (aht hb) (bz hl 60 rfl rfl) zLg (gI rfl λ_ _ _ _ _ _ _ _=>rfl)) λaqq ap1 aoC apD aps=>?_;refine gi (i5 X G (aho hb) (bz hl 61 rfl rfl) zLh (gI rfl λ_ _ _ _ _ _ _ _=>rfl)) λaql apW aoy apz apn=>?_;refine gi (i5 X G (ahk hb) (bz hl 62 rfl rfl) ["_law_script"] (gJ rfl λ_ _ _ _ _ _ _=>rfl)) λanC XI aqu arb apk=>?_;have e:=hfa.symm.trans apk;cases e;refine oA (su X G (aeg hb)) λap' alU=>?_;refine oA (su X G (afr hb)) λvy anA=>?_;refine oA (su X G (afs hb)) λtV anB=>?_;refine oA (su X G (afq hb)) λr6 anz=>?_;refine oA (su X G (aei hb)) λrV alW=>?_;refine oA (su X G (aef hb)) λqj alT=>?_;refine oA (su X G (aeh hb)) λtQ alV=>?_;refine oA (su X G (adw hb)) λze aj2=>?_;refine oA (su X G (aee hb)) λalX Vu=>?_;refine oA (su X G (aco hb)) λafK Jg=>?_;have XD:Mk K (ic K) (LR K):=⟨(RZ hb).1,HT.jP (JJ hb).1,(JJ hb).2.2.2,(RZ hb).2⟩;have XG:Mk K (ie K) (LU K):=⟨(Sa hb).1,HT.jP (JL hb).1,(JL hb).2.2.2,(Sa hb).2⟩;have XA:Mk K (ib K) (LO K):=⟨(RY hb).1,HT.jP (JI hb).1,(JI hb).2.2.2,(RY hb).2⟩;have Wu:Mk K (ia K) (KJ K):=⟨(Rj hb).1,HT.jP (Jd hb).1,(Jd hb).2.2.2,(Rj hb).2⟩;have Ws:Mk K (hY K) (KH K):=⟨(Rh hb).1,HT.jP (Jb hb).1,(Jb hb).2.2.2,(Rh hb).2⟩;have Wt:Mk K (hZ K) (KI K):=⟨(Ri hb).1,HT.jP (Jc hb).1,(Jc hb).2.2.2,(Ri hb).2⟩;have alY:Mk K (l6 K) (zI K):=⟨(QW hb).1,(aej hb),(LG hb).2.2.2,(QW hb).2⟩;have Wr:Mk K (eL K) (Wc K):=⟨(Rg hb).1,HT.jP (Kz hb).1,(Kz hb).2.2.2,(Rg hb).2⟩;have JW:Mk K (b9 K) (LS K):=⟨(Qu hb).1,HT.jP (JK hb).1,(JK hb).2.2.2,(Qu hb).2⟩;have aep:=MTA;have acA:=MTL;have Qx:=MTF;have adD:=MTT;have abu:=MTE;have acz:=MTD;have adC:=MTW;have abf:=MAE;have abd:=MMY;have Qa:=MCR;have Dh:=MMV;have Io:=MDO;have aa1:=MDS;have abe:=MDT;have aa2:=MDL;have aa0:=MDW;have Ql:=MCY;have Qr:=MCM;have P8:=MOB;have abc:=MSE;have Qq:=MMW;have abv:=MWH;have aaD:=MSD;have aaJ:=MRG;have aaZ:=MWT;have abx:=MBO;have abw:=MDE;have abY:=MOV;have acC:Meth K (ic K) "empties" (pF K):=⟨(abr hb),(qh hb).2.2.2,(qh hb).2.2.1⟩;have acD:Meth K (ie K) "empties" (pF K):=⟨(abt hb),(qh hb).2.2.2,(qh hb).2.2.1⟩;have acB:Meth K (ib K) "empties" (pF K):=⟨(abq hb),(qh hb).2.2.2,(qh hb).2.2.1⟩;have abZ:Meth K (ia K) "empties" (pF K):=⟨(abb hb),(qh hb).2.2.2,(qh hb).2.2.1⟩;have abW:=anD;have aby:=anE;have abX:Meth K (hZ K) "empties" (pF K):=⟨(aba hb),(qh hb).2.2.2,(qh hb).2.2.1⟩;have abz:MB K (tI K) "__init__" (zI K):=⟨(afo hb),(afp hb),HT.ak3 (aaO hb),(LG hb).2.2.1⟩;have Dl:=W.mg_none_of X G (abk hb);have Eu:=W.mg_none_of X G (ag7 hb);have UH:=W.mg_none_of X G (ae9 hb);have Vr:=W.mg_none_of X G (ag4 hb);have Ba:=W.mg_none_of X G (ad6 hb);have nY:=W.mg_none_of X G (ag6 hb);have Vt:=W.mg_none_of X G (ag8 hb);have alQ:=W.mg_none_of X G (ag3 hb);have Im:=W.mg_none_of X G (abD hb);have wY:=W.mg_none_of X G (ad7 hb);have vj:=W.mg_none_of X G (ae8 hb);have Vs:=W.mg_none_of X G (ag5 hb);have afI:=W.mg_none_of X G (adl hb);have alR:∃u,mg "TOP" = some u/\RelV (.int mm) u:=by obtain⟨t,e⟩:=HT.Bv (ahi hb);exact⟨_,W.mg_of X G e,_,rfl⟩
 have JV:∃u,mg "NAMES" = some u/\RelV (.int 12) u:=by obtain⟨t,e⟩:=HT.Bv (aed hb);exact⟨_,W.mg_of X G e,_,rfl⟩
 have ac9:∃u,mg "REGISTERS" = some u/\RelV (.int 4) u:=by obtain⟨t,e⟩:=HT.Bv (abQ hb);exact⟨_,W.mg_of X G e,_,rfl⟩
 have aeo:∃u,mg "LONGEST" = some u/\RelV (.int 120) u:=by obtain⟨t,e⟩:=HT.Bv (ac0 hb);exact⟨_,W.mg_of X G e,_,rfl⟩
 have afJ:∃u,mg "CLERKS" = some u/\RelV (.int 4) u:=by obtain⟨t,e⟩:=HT.Bv (adt hb);exact⟨_,W.mg_of X G e,_,rfl⟩
 have aqc:=W.mg_of X G (HT.jP (ahd hb));have Wi:=W.mg_of X G (HT.jP (ag9 hb));have XNo:=Fy (ahe hb);have Wl:=W.mg_of X G (HT.jP (ahb hb));have XMv:=Fy (ahg hb);have Wm:=W.mg_of X G (HT.jP (ahc hb));have PC:=Fy (ahh hb);have Wk:=W.mg_of X G (HT.jP (aha hb));have PB:=Fy (ahf hb);have Wj:=W.mg_of X G (HT.jP (ag' hb));have ahJ:=W.mg_of X G (HT.jP (adv hb));have ahK:∀H:Hp,aE K H (Tr K) [.str "row",.str "name",.str "none"]:=λH=>HT.ahQ (adu hb) (by show 3<=aP;decide) H;have bl:Bl mg:=⟨Dl,Eu,UH,Vr,Ba,nY,Vt,alQ⟩;have bt:BT mg:=⟨Dl,Eu,UH,Vr,nY,Vt,wY,Im,Vs,afI⟩;have cn:Cn mg:=⟨alR,JV,ac9,aeo⟩
 have T1:qk K mg ⟨(WU K),(WY K),(WV K),(WW K),(zI K),(LR K),(LU K),(LO K),(KJ K),(KH K),(KI K),(tI K),(ic K),(ie K),(ib K),(ia K),(hY K),(l6 K),(hZ K),_,_,_,_,_,_,_,_,_,_,_⟩:=
  ⟨bl,cn,FW,bW,gW,FB,bB,gB,FS,bS,gS,FO,bO,gO,⟨FI,bI,abz,alU,Ba⟩,ze,(abp hb),alY,aj2,vy,(acv hb),(ady hb),(abU hb),XD,anA,apR,NC,tV,(acx hb),(adz hb),(acy hb),XG,anB,ap3,NF,r6,(acu hb),(ac6 hb),(adx hb),XA,anz,apQ,NB,rV,(abV hb),(ac7 hb),(acw hb),Wu,alW,anL,MH,qj,(abR hb),(ac4 hb),(acr hb),Ws,alT,anI,MF,tQ,(abT hb),(ac5 hb),(abS hb),Wt,alV,anK,MG⟩
 obtain⟨t,u,O⟩:∃t u,zH K mg t u:=⟨_,⟨(pF K),(UE K),(UG K),_,_,_⟩,⟨T1,FEm,xV,anJ,My,anM,Mz,(Ky hb),(Kx hb),acC,acD,acB,abZ,abW,aby,abX,⟨(aeb hb),(ad9 hb),(acT hb),(acU hb),(acS hb),(acg hb),(ace hb),(acf hb)⟩,⟨(aec hb),(ad' hb),(acW hb),(acX hb),(acV hb),(acn hb),(ack hb),(acm hb)⟩,⟨(aea hb),(ad8 hb),(acQ hb),(acR hb),(acP hb),(acd hb),(aca hb),(acb hb)⟩,⟨(ads hb),(ado hb),(aci hb),(acj hb),(ach hb),(abM hb),(abK hb),(abL hb)⟩,⟨(adp hb),(adm hb),(ab6 hb),(ab7 hb),(ab5 hb),(abG hb),(abE hb),(abF hb)⟩,⟨(acZ hb),(acY hb),(abO hb),(abP hb),(abN hb),(abn hb),(abl hb),(abm hb)⟩,⟨(adq hb),(adn hb),(ab9 hb),(ab' hb),(ab8 hb),(abJ hb),(abH hb),(abI hb)⟩⟩⟩;have T:=O.st;have cM:gw K (b9 K):=⟨afK,(aaW hb),(aaI hb),(aa9 hb),(aaX hb),(aaL hb),(aaM hb),(aa8 hb),(aaY hb),(aa' hb),(aaN hb)⟩;have cT:lC K (eL K):=⟨alX,(acq hb),(acp hb),(abo hb)⟩;have b3:=aiO NH;have SK:Nf K t:=⟨O.gt,O.tk,⟨O.zD.cl,O.zD.mr,O.zD.vv⟩,⟨O.zE.cl,O.zE.mr,O.zE.vv⟩,⟨O.zC.cl,O.zC.mr,O.zC.vv⟩,⟨O.zv.cl,O.zv.mr,O.zv.vv⟩,⟨O.zt.cl,O.zt.mr,O.zt.vv⟩,⟨O.zo.cl,O.zo.mr,O.zo.vv⟩,⟨O.zu.cl,O.zu.mr,O.zu.vv⟩⟩;have xf:XF K (jz K):=⟨(ai5 hb),xcd (ai9 hb),(afi hb),(aff hb),(afl hb)⟩;have XB1:XB K (pE K) (pD K) (jz K):=⟨PC.base,PB.base,(ai' hb),PC.self,(ajd hb),PB.self,(ai7 hb),(ai4 hb),(ai6 hb),⟨(afk hb),(afh hb),(afn hb),(afc hb),(afe hb),(Ky hb),(Kx hb),(afa hb)⟩,⟨(afj hb),(afg hb),(afm hb),(afb hb),(afd hb),(Ky hb),(Kx hb),(ae' hb)⟩,(ajc hb),(ajb hb),(aja hb),xf,(Ur hb),(Uq hb)⟩;unfold Vq;refine⟨anC,λs v=>?_,⟨_,Us hb⟩,λbase h1 h2 h3=>?_⟩
 ·obtain⟨_,_,_,_,_,_,_,_,_,e,_⟩:=XI.ex;rw[e];exact .of_eq rfl
 ·exact(by
  have hC:=W.codeHd_of_K h1 (Us hb);have GTD:=adS (P:=l.prog) (w:=w) (mg:=mg) (base:=base) FTD bt cT;have GTE:=aeQ (P:=l.prog) (w:=w) (mg:=mg) (base:=base) FTE bt cT;have GTF:=Q9 (P:=l.prog) (w:=w) (mg:=mg) (base:=base) FTF bt cT hC h3;have GTT:=agk (P:=l.prog) (w:=w) (mg:=mg) (base:=base) FTT bt cT hC h3 FW bW gW FTF bTF Qx XMv.xc Wl;have GTA:=ais (P:=l.prog) (w:=w) (mg:=mg) (base:=base) FTA cT;have GTL:=adT (P:=l.prog) (w:=w) (mg:=mg) (base:=base) FTL bt cT;have GTO:=aeP (P:=l.prog) (w:=w) (mg:=mg) (base:=base) FTO bt cT Wr FTI bTI Vu JV ahJ ahK PC.xc Wm (PT:=406);have GAE:=agx (P:=l.prog) (w:=w) (mg:=mg) (base:=base) (t:=t) (CT:=(eL K)) FAE nY cM;have GWH:=agi (P:=l.prog) (w:=w) (mg:=mg) (base:=base) (t:=t) (CT:=(eL K)) FWH cM;have GSD:=acH (P:=l.prog) (w:=w) (mg:=mg) (base:=base) (t:=t) (CT:=(eL K)) FSD cM;have GRG:=acI (P:=l.prog) (w:=w) (mg:=mg) (base:=base) (t:=t) (CT:=(eL K)) FRG vj cM;have GBO:=agw (P:=l.prog) (w:=w) (mg:=mg) (base:=base) (t:=t) (CT:=(eL K)) FBO vj cM;have GDE:=agu (P:=l.prog) (w:=w) (mg:=mg) (base:=base) (t:=t) (CT:=(eL K)) FDE vj cM;have GOV:=aiw (P:=l.prog) (w:=w) (mg:=mg) (base:=base) (t:=t) (CT:=(eL K)) FOV vj cM;have GWT:=adR (t:=t) FWT cM cT GTD bTD acz;have GMY:=agn FMY cM cT O GAE bAE abf GTE bTE abu;have GCR:=adX (t:=t) FCR cM cT Im GTF bTF Qx;have Hl:=aeU FMV cM nY wY GMY bMY abd GCR bCR Qa;have GCM:=aiB (P:=l.prog) (w:=w) (mg:=mg) (base:=base) (t:=t) (CT:=(eL K)) FCM cM;have GOB:=adW (P:=l.prog) (w:=w) (mg:=mg) (base:=base) (t:=t) (CT:=(eL K)) FOB cM nY;have GCY:=agv FCY cM cT GTT bTT adD GCM bCM Qr;have GDT:=agt FDT cM cT nY T GTA bTA aep GCY bCY Ql;have GDL:=aeX FDL cM cT T GTL bTL acA GOB bOB P8;have GDW:=aeV FDW cM T nY GOB bOB P8 GCM bCM Qr;have GPB:=abB (P:=l.prog) (w:=w) (mg:=mg) (base:=base) FPB O;have GDS:=aeW FDS cM O GPB kPB bPB gPB GDT bDT abe GDL bDL aa2 GDW bDW aa0;have GHF:=aiz (P:=l.prog) (w:=w) (mg:=mg) (base:=base) FHF T;have PK:=akB FDO cM GHF kHF bHF gHF Hl Hf Dh GDS bDS aa1 GCY bCY Ql XMv.xc Wl;have GSO:=adU (P:=l.prog) (w:=w) (mg:=mg) (base:=base) FSO T XNo.xc Wi Ba;have GLO:=(aiy (P:=l.prog) (w:=w) (mg:=mg) (base:=base) FLO bl Im (akC FHC bl afJ) kHC bHC gHC (aiA FFI T SK XNo Wi) kFI bFI gFI PB.xc Wk ⟨(ai8 hb),XE.1,XE.2,(ahv hb)⟩ (amo apS xf (Ur hb) (Uq hb)) apw Wj);have GMI:=agq NH cM T Ba wY GLO Y9 bLO Z' GTO Y8 bTO Z9 GSO kSO bSO gSO;have GMB:=aix NH cM GLO Y9 bLO Z' GTO Y8 bTO Z9;have GTW:=agj (P:=l.prog) (w:=w) (mg:=mg) (base:=base) FTW bt vj cT Wr FTI bTI Vu JV;have GMW:=agp FMW cM cT vj JW GMI Jg b3 GTW bTW adC;have GSE:=aeT FSE cM nY GCR bCR Qa PK Pz Io;have apO:=aiq (P:=l.prog) (w:=w) (mg:=mg) (base:=base) ap2 nY;have NG:=akx (P:=l.prog) (w:=w) (mg:=mg) (base:=base) ap0;have apH:=aeR apT wY NG Nk ND Nz;have apL:=aiv apY NG Nk ND Nz;have apM:=akA (P:=l.prog) (w:=w) (mg:=mg) (base:=base) apZ;have apK:=ags apX nY wY Ba apH aow apx apl apM aoB apC apr;have TT:=(⟨cM,GWH,bWH,abv,GSD,bSD,aaD,GRG,bRG,aaJ,GWT,bWT,aaZ,GBO,bBO,abx,GDE,bDE,abw,GOV,bOV,abY⟩:Tells l.prog w K mg base t (b9 K) (eL K) (Wb K) (Wd K) (We K) (Wa K) (Wh K) (Wg K) (Wf K) _ _ _ _ _ _ _);have XH:=aeS apV nY wY TT Hl Hf Dh;have apI:=adV apU cM Dl vj GMW bMW Qq GSE bSE abc Hl Hf Dh PK Pz Io XH W6 Xz Xy;have apN:=ago ap1 Dl Eu JW GMB Jg b3 XB1 Wm Wk Wj;have apJ:=akz apW nY vj apN aoC apD aps;exact aky XI nY wY Vs Eu cM apO aoD apE apt NG Nk ND Nz apK aoz apA apo apJ aoy apz apn JW GMI Jg b3 GMW bMW Qq XH W6 Xz Xy Hl Hf Dh PK Pz Io apL aoA apB apq apI aox apy apm)
theorem walk{l:W.OpenLaw}{q:Program}{loose:List Str}{XP:(Str->Option Value)->Heap->Prop}{d:DefRec}(hn:l.most=some 63)(Pc:d.params.defaults=[])(hdn:d.name = "law") :
  W.WalkO q loose XP (HT.tP TL.uj 406 (λK=>(seen K,qp K)) (true,pq)).says l.row.toRowW d [] (λf vs=>PySem.call f vs):=by
 refine Att.adA hn Pc λw s₀ s₁ mg mb fa o pm cd doc a vs ns G Y ho hd gU Af Nq hints hlen hg=>?_;obtain⟨K,KX,KN,hT,E⟩:=Y;rw[hdn]at Af;obtain⟨fd,hb,⟨c,hc⟩,hF⟩:=facts (l:=l) (w:=w) E KX G.T.g Af
 have bm:ub mg s₁.heap:=by
  obtain⟨bm,ob,b1,b2,b3,b4,b5,b6⟩:=G.T.bmain;refine⟨bm,ob,b1,b2,λz=>?_,b3,b4,b5,b6⟩;obtain⟨o',es,ep,e,yv,_⟩:=G.T.g;rw[z,e]at b3;cases b3;rw[yv]at b6;cases b6
 exact aeZ (ts:=[406]) KX G.T.g G.T.b G.T.builtins G.T.nolimit hg bm (λb hb=>by rw[gz.mp hb];exact hT) (λb hb=>by rw[gz.mp hb];exact((W.codeHd_of_K KX hc).tab hT).isCodeTable) (λb hb=>by rw[gz.mp hb];exact KN) Nq hints (cu hlen qc) ⟨rfl,qc,qc⟩ hF hb (λH hO hS=>⟨a,ns,rfl,hS,hlen,⟨#[],hO.2 406 (by simp),.inl rfl⟩,λ_=>rfl⟩) λH e s' z=>z
end TL
open PySem PySem.W PyProof.Rows
theorem TL.left:W.LeftO PySem.Challenge.rw_traylate_k27_settled.row.prog TL.qv [] (λs=>W.xlAt TL.qv [] s&&W.recOk PySem.Challenge.rw_traylate_k27_settled.row.records s) (HT.tP TL.uj 406 (λK=>(TL.seen K,TL.qp K)) (true,TL.pq)).obs (HT.tP TL.uj 406 (λK=>(TL.seen K,TL.qp K)) (true,TL.pq)).val 11746:=by
 refine HT.aiQ ?a ?b ?c ?d
 case a=>kernel_rfl
 case b=>kernel_rfl
 case c=>intro s;kernel_rfl
 case d=>intro w os;exact HT.both (HT.E8 (TL.r1 w os)) (HT.both (TL.r2 w os) (TL.r3 w os))
theorem PySem.Challenge.cw_traylate_k27_settled_holds : PySem.Challenge.rw_traylate_k27_settled.Holds := by
 w_on;o_law
 refine W.holds_open (q:=TL.qv) (loose:=[]) (XP:=W.XL TL.qv []) (YP:=(HT.tP TL.uj 406 (λK=>(TL.seen K,TL.qp K)) (true,TL.pq)).says) (d:=TL.dl) (kwd:=[]) TL.left (HT.tP TL.uj 406 (λK=>(TL.seen K,TL.qp K)) (true,TL.pq)).of (HT.tP TL.uj 406 (λK=>(TL.seen K,TL.qp K)) (true,TL.pq)).keeps (λs e=>W.xl_of s (Bool.and_eq_true_iff.mp e).1) W.XL.keeps ?h1 ?h2 ?h3 (λs e=>W.recFacts_of (Bool.and_eq_true_iff.mp e).2) ?h4 (by assumption) ?h5 ⟨rfl,rfl,rfl,rfl,rfl,dk⟩ ?hw (TL.walk (l:=PySem.Challenge.rw_traylate_k27_settled) ?w1 ?w2 ?w3)
 case h1=>kernel_rfl
 case h2=>kernel_rfl
 case h3=>kernel_rfl
 case h4=>kernel_rfl
 case h5=>kernel_rfl
 case hw=>w_witness2
 case w1=>kernel_rfl
 case w2=>kernel_rfl
 case w3=>kernel_rfl
#print axioms PySem.Challenge.cw_traylate_k27_settled_holds
