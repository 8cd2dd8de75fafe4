import PyProof.Rows.All
import Wide.All
import OpenK.AllK
import Wide.FinOn
import KE.KNestM
import KE.KSortedM
import PySem.Challenge.RW_traylate_k43_whole_long_runs
set_option Elab.async false
set_option linter.all false
set_option maxRecDepth 100000
set_option maxHeartbeats 0
set_option synthInstance.maxSize 100000
set_option synthInstance.maxHeartbeats 0
set_option genSizeOf false
open Option renaming some→a_,none→b_
open Bool renaming true→c_,false→d_
open PySem renaming Addr→e_,Value→f_,Shared→g_,Around→h_,Scope→i_,Heap→j_,World→k_,Program→l_
open PySem renaming wpAny_bind→aj,wpAny_pure→aM,sizeLine→a9,SetTable→cb,starEach→cA,mainGlobals→dW,NameKind→eI,sizeLine_eq→eM,compareOp→fw,PassesOwn→fG,wpAny_mono→gG,wpAny_holding→jw,wpAny_field→jS,FuncData→lW,wpAny_truthy_bool→ni,sysModules→oj,wpAny_seqItems→pP,builtinsNs→pW,codeAny_builtin→qY,plainId_quiet→qZ,bootBuiltins→q8,bindArgs→rE,binaryOp→rF,wpAny_Call_Name_kw→tj,wpAny_newObj_type→tu,wpAny_rule→vv,wpAny_pyIter_list→xC,wpAny_call_entry→xE,wpAny_passesOwn→xF,wpAny_letGo→xK,keywordEach→xM,call_meets→xR,tupleKind→xV,backToKw→yb,wpAny_callSpecial?_slot→zv,wpAny_setField_rec→zC,tupleKind_room_in1→zD,behindInMarks→zK,attributeBase→zL,codeAny_mono→zO,assignEach→zS,treeTable→zY,scanBound→zZ,getMethod→z0,relayAll→Ab,wpAny_execs_nil→BU,importedModules→BV,wpAny_tryCatch→BY,recursionLimit→BZ,wpAny_typeOf→B3,call_meetsIn→B4,typeLookup→B9,swapsWith→Cj,letOwnedTupleGo→FG,wpAny_onRaise→FV,wpAny_newList→FX,wpAny_attempt→FY,wpAny_of_eq→Ga,wpAny_call→Gk,intKind_is→Gm,seqItems?→GZ,seqIndex?→G0,builtinLookup_eq_fast→MJ,wpAny_updateSeq_pair→MM,wpAny_Call_method→MU,foldedSetIterable→MV,wpAny_isInstance→MW,wpAny_eqBool_int→MX,wpAny_updateSeq→M',wpAny_specialOf→Na,wpAny_loadPart'→Nb,wpAny_ite_split→Nc,typeLookup_type→Nd,wpAny_newTuple→Nh,wpAny_standAt→Nl,seqIndex_neg→Nw,wpAny_comprehension_free→W5,wpAny_pyNext_list_item→W8,richCompare_meets_room→W',wpAny_pyNext_list_end→Xd,wpAny_isTrue_Compare1→Xe
open Nat renaming le_refl→aw,zero_le→aP,le_trans→cx,ne_of_lt→cI,le_of_lt→c8,lt_of_lt_of_le→gq,le_succ→kJ,lt_irrefl→nu,le_of_eq→nz,min_eq_left→nZ,sub_self→oa,not_lt_zero→pO,succ_le_succ→qX,ne_of_gt→rh,lt_of_le_of_lt→tm,lt_trans→tw,le_succ_of_le→vk,zero_add→vm,min_le_left→xG,lt_succ_of_lt→zF,lt_succ_self→zH,mod_lt→zU,beq→Am,lt_trichotomy→Fz,succ_ne_self→FD,le_add_right→FE,mul_le_mul→FR,succ_mul→F',add_sub_cancel'→MQ,lt_of_lt_of_eq→MS,max_eq_right→MY,succ_pos→Ny,add_mul_mod_self_left→W0,eq_zero_of_not_pos→Xa,lt_or_gt_of_ne→Xn,lt_of_succ_lt→Xw
open Or renaming inl→aF,inr→tT
open PyProof.Rows renaming wpS_bind→aN,wpS_pure→aS,pendingOf→b8,boot_isinstance→je,SortKind→jx,wpS_forRange→nv,failedOf→nB,boot_tuple→pX,wpS_mono→rD,callWith_type1→vg,wpS_modify→vt,get?_update_seq→BW,listUpdate_at→FZ,seqEpoch_at→Gb,boot_list→G9,slot_tuple_getitem→MD,subscriptTail→Nm,subscriptTail_builtinR→W9
open PySem.Heap renaming get?_push_of_some→aY,lt_size→bq,get?_push_size→dw,SameBut→kG,size_push→lO,get?_update_ne→BR,ExtBut→Gd,get?_update_self→MK,get?_update_other→Xb
open Option renaming some→bU,map_eq_some_iff→lN,bind_eq_some_iff→sZ,isSome_map→Fy,map_some→FJ,isSome_iff_exists→MF
open Option.some renaming inj→cu,injEq→xD
open Ne renaming symm→cB
open PySem.Value renaming ref→cR,int→eX,none→oo,type→pY,bool→tF,str→vw,float→NH,isInt_shape→Xu
open Array renaming length_toList→dj,getElem?_toList→pN,toList_append→qW,toList_reverse→Fv,toList_push→FA,toList_map→M0,toList_inj→M5,eq_empty_of_size_eq_zero→WT,perm_iff_toList_perm→WZ,getElem?_eq_getElem→W3,getElem?_extract→Xc,toArray_toList→Xg,getElem_toList→Xh,size_extract→Xo,toList_zip→XC
open Bool renaming false_ne_true→dO,and_eq_true→nj,false_eq_true→Fw,eq_iff_iff→FP,and_eq_true_iff→MO
open Int renaming toNat_natCast→fZ,le_trans→kE,zero_add→lQ,not_lt→xS,le_refl→zP,toNat_of_nonneg→BQ,emod_nonneg→FK,natCast_emod→MZ,fdiv_eq_ediv_of_nonneg→WW
open PySem.PassesOwn renaming never→gr
open LawfulBEq renaming eq_of_beq→gu
open PySem.SeqAt renaming EqAt→iF,noMixAll→Ac
open PySem.SetTable renaming below→jf,grown→xH,has→Nx,probe→XR,slot→X0
open PySem.Obj renaming mapSeq→kM,putSet→zT,data_mapFields→Xm
open True renaming intro→lR
open False renaming elim→lU
open PySem.W renaming boot_heap→nA,boot_drawn→Gn,boot_toks→G8
open PySem.PyData renaming int→oq,eqv→rA,canLayAll0→zE,canLay0→zI,eqvAll→zM,depthAll→FH,strOk→F8,depth→F9
open Prod renaming mk→oC
open PySem.NameKind renaming free→pQ
open PySem.Builtin.SmallTypes renaming nextOf→qV,ownedTupleIsFree→Fp,ownedTupleHandOut→WS
open PySem.Str renaming ofString→q9
open PySem.Around renaming under_plainId→tf,under→NB,frames_deeper→Xi
open Classical renaming byContradiction→vh,propDecidable→MG,not_forall→MN
open PySem.Calls renaming spliced_cons→vj,spliced_nil→zG,callWith_builtin→Ft,evalArgs_plain→Fu,Name_function_global→WX
open Prod.mk renaming inj→vn,injEq→F1
open PySem.Builtin.Tuple renaming tupleExact→zu
open PySem.Heap.SameBut renaming update→zB
open And renaming left→Ad
open PySem.Walks renaming list→Ca
open PySem.Spec renaming same→Cm,sameAll→F7
open PySem.Builtin.Slice renaming slicePlaces→Fq,sliceAdjust→ME,sliceApplied→WY
open PySem.Builtin.List renaming listTooLong→Fs,listExtendWith→WU
open PySem.SetTable.below renaming go→Fx
open ForInStep renaming yield→FL
open PyProof.Rows.SortSt renaming mk'→Gp
open Nat.succ renaming inj→Nz
open Exists renaming intro→NA
open PyProof.Rows.IsTup renaming new→ON
open PySem.Builtin.Builtins renaming bindParams→WV
open PySem.Builtin.Dict renaming updateFrom→W7
open PySem.SeqAt.EqAt renaming none_int→Xj,int_none→Xk
open PySem.SetTable.probe renaming go→Xv
open PySem.Heap.DictOf renaming new→XH
open PySem.SetTable.Met.empty renaming injEq→aiL
open PySem.F renaming plainAttrs_list→m_,slot_list_append→n_,type_list_append→o_
open PySem renaming boot_len→q_,mem_of_lookup→t_
open PySem.Paired renaming length→r_
open PySem.W renaming Frag→u_,kitOne→v_,findIn→w_,keepIn→x_,kitCls→y_,mg_none_of→z_,Looks→s_,mroIn→A_,fnOf→B_,mg_of→C_,InstAt→D_,kia_one→E_,hasDictIn→F_,callWith_K→G_
open PySem PySem.Spec PyProof.Rows
noncomputable section
theorem dk{p:Prop}(h:p:=by decide +kernel):p:=h
theorem qc{p:Prop}(h:p:=by decide):p:=h
theorem om{p:Prop}(h:p:=by omega):p:=h
theorem li{p:Prop}(h:p:=by lia):p:=h
abbrev zLa:List PySem.Str:=["_law_one","_law_other","_law_why","_law_deeds","_law_places_here"]
abbrev zLb:List PySem.Str:=["machine"]
abbrev zLc:List PySem.Str:=["self","name"]
abbrev zLd:List PySem.Str:=["self","clerk"]
abbrev zLe:List PySem.Str:=["self","told"]
abbrev zLf:List PySem.Str:=["self"]
abbrev zLg:List PySem.Str:=["_law_ring","_law_deeds","_law_places_here"]
abbrev zLh:List PySem.Str:=["self","clerk","step"]
abbrev zLi:List PySem.Str:=["_law_script","_law_machine","_law_many"]
abbrev zLj:List PySem.Str:=["_law_script","_law_k"]
abbrev zLk:List PySem.Str:=["_law_row","_law_deeds","_law_over"]
abbrev zLl:List PySem.Str:=["self","name","number","deed"]
abbrev zLm:List PySem.Str:=["self","clerk","name"]
abbrev zLn:List PySem.Str:=["row","befores"]
abbrev zLo:List PySem.Str:=["self","program","kind"]
abbrev zLp:List PySem.Str:=["step","place","regs"]
abbrev zLq:List PySem.Str:=["told","place","length"]
abbrev zLr:List PySem.Str:=["numbers","why"]
abbrev zLs:List PySem.Str:=["_law_script"]
abbrev zLt:List PySem.Str:=["self","move"]
abbrev zLu:List PySem.Str:=["program"]
namespace L2
end L2
namespace L3
end L3
namespace L4
end L4
namespace L5
end L5
namespace HT
open PySem.W
def CK(tb:String->Option Builtin)(p:l_)(w:k_)(n₀:Nat)(ann:Option f_):Nat->SharedT->Thread->Option SharedT
 | 0,_,_=>b_
 | n+1,s,t=>match through t with
  | true=>a_ s
  | false=>match stepOk n₀ ann t with
   | false=>b_
   | true=>match stepT (denote tb) p w s t with
    | some (s',t')=>CK tb p w n₀ ann n s' t'
    | none=>b_
theorem NJ{tb:String->Option Builtin}{w:k_}{n₀:Nat}{ann:Option f_}:∀{n:Nat} {s s':SharedT} {t:Thread},CK tb p w n₀ ann n s t=a_ s'->topRun tb p w n₀ ann n s.abs t=a_ s'.abs
 | 0,_,_,_,h=>by cases h
 | n+1,s,s',t,h=>by
  unfold CK at h;unfold topRun;cases he:through t with
  | true=>rw[he]at h;cases h;rfl
  | false=>
   rw[he]at h;cases hk:stepOk n₀ ann t with
   | false=>rw[hk]at h;cases h
   | true=>
    rw[hk]at h;cases hs:stepT (denote tb) p w s t with
    | none=>rw[hs]at h;cases h
    | some r=>obtain⟨s₂,t₂⟩:=r;rw[hs]at h;rw[stepT_spec hs];exact NJ h
def PK:List Obj->Nat->BT->BT
 | [],_,t=>t
 | o::r,i,t=>PK r (i+1) (t.ins i o)
def JM(P:Params):BT:=PK (nA P).objs.toList 0 .nil
def AD(P:Params):Nat:=(nA P).objs.size
def JN(P:Params):Life:=(nA P).life
def afF(P:Params):Option Value:=(nA P).nsMap dW "__annotations__"
theorem boot_abs(P:Params):absHeap (JM P) (AD P) (JN P)=nA P:=by kernel_rfl
theorem acH(P:Params):((nA P).isNs dW,(nA P).objs.size)=(c_,AD P):=by kernel_rfl
def QF(P:Params)(os:OsState):SharedT:=⟨JM P,AD P,JN P,#[],Gn,G8,os⟩
def ly(p:l_)(w:k_)(N:Nat)(os:OsState):Option SharedT:=CK zY p w (AD w.params) (afF w.params) N (QF w.params os) (topStub p)
def held(p:l_)(P:Params)(s:g_):Bool:=staticsOk (BV p.main.body) (nA P) s.heap&&namesBound p s.heap&&gensDone s&&laidKept (nA P) s.heap
theorem both{α β γ:Type}{o:Option α}{f:α->β}{g:α->γ}{b:β}{c:γ}(h1:o.map f=a_ b)(h2:o.map g=a_ c):o.map (λs=>(f s,g s))=a_ (b,c):=by
 cases o with
 | none=>cases h1
 | some s=>cases h1;cases h2;rfl
theorem Ym{w:k_}{N:Nat}(a:(s₀.heap.isNs dW&&s₀.gens.size == 0)=c_)(r:topRun zY p w s₀.heap.objs.size (s₀.heap.nsMap dW "__annotations__") N s₀ (topStub p)=a_ s₁)
  (b:(staticsOk (BV p.main.body) s₀.heap s₁.heap&&namesBound p s₁.heap&&gensDone s₁&&laidKept s₀.heap s₁.heap)=c_):topFrom zY p w N s₀=a_ s₁:=by
 unfold topFrom;rw[a];dsimp only;rw[r];dsimp only[Option.bind];rw[b]
theorem acv{Xt:g_->Bool}{α:Type}{Yf:g_->α}{Ya:k_->α}{N:Nat}(e:opening p=plainProg p.main.scope.names)(hN:Nat.ble 600 N=c_)(f:∀s,fenceModules? p s=a_ s)
  (run:∀(w:k_) (os:OsState),(ly p w N os).map (λs=>(held p w.params s.abs,(openSeen q loose (BV p.main.body) Xt c_ s.abs,Yf s.abs)))=a_ (c_,(openGood q loose,Ya w))):LeftO p q loose Xt Yf Ya N:=λw=>by
 obtain⟨⟨h,gs,d,k,os⟩,e1,e'⟩:=lN.mp (boot_open e hN f w);obtain⟨rfl,rfl,rfl,rfl⟩:h=nA w.params/\gs=Array.mk []/\d=Gn/\k=G8:=by simpa using e'
 obtain⟨s₁,r,l⟩:=lN.mp (run w os);obtain⟨l1,l2⟩:=vn l;obtain⟨z1,z2⟩:=vn (acH w.params);have r':=NJ r
 have ea:(QF w.params os).abs=⟨nA w.params,Array.mk [],Gn,G8,os⟩:=by
  show (⟨absHeap (JM w.params) (AD w.params) (JN w.params),_,_,_,_⟩:g_)=_;rw[boot_abs];rfl
 rw[ea]at r';have t:topFrom zY p w N ⟨nA w.params,Array.mk [],Gn,G8,os⟩=a_ s₁.abs:=Ym (by rw[z1];rfl) (by show topRun zY p w (nA w.params).objs.size _ N _ _=_;rw[z2];exact r') l1;unfold openEnds;rw[e1];show (topFrom zY p w N _).map _=_;rw[t];exact congrArg a_ l2
end HT
namespace TL
open PySem.SeqAt L2 L3
def qv:Program:=W.view PySem.Challenge.rw_traylate_k43_whole_long_runs.prog [0,2,3,4,5,6,7,8,10,11,12,13,14,15,16,17,18,19,20,21,22,23,24,25,27,28,29,30,31,32,33,34,36,37,38,39,41,42,43,44,46,47,48,50,51,52,53,55,56,57,58,59,60,61,62]
end TL
section
open PySem.W
abbrev TL.rn(w:k_)(os:OsState):=HT.ly PySem.Challenge.rw_traylate_k43_whole_long_runs.row.prog w 12718 os
abbrev TL.lo:List Str:=["Machine","KINDS"]
theorem TL.lw:looseW TL.qv []=TL.lo:=by kernel_rfl
theorem TL.lwS:W.OpenLaw.wellSaid PySem.Challenge.rw_traylate_k43_whole_long_runs=true:=by kernel_rfl
theorem TL.l0(w:k_)(os:OsState):(TL.rn w os).map (λs=>((s.abs.heap.keysOk TL.lo ((recsOf TL.qv).map (·.name)) ((litsOf TL.qv).map (·.1)) ((clssOf TL.qv TL.lo).map (·.name))),((plainSeenE TL.qv TL.lo s.abs))))=a_ (c_,(plainGoodE TL.qv TL.lo)):=by kernel_rfl
theorem TL.l1(w:k_)(os:OsState):(TL.rn w os).map (λs=>(wideSeen TL.qv s.abs,clsSeenW TL.qv [] s.abs))=a_ (wideGood TL.qv,clsGoodW TL.qv []):=by kernel_rfl
theorem TL.l2(w:k_)(os:OsState):(TL.rn w os).map (λs=>((plainSeenD TL.qv [] s.abs),((HT.held PySem.Challenge.rw_traylate_k43_whole_long_runs.row.prog w.params s.abs),((s.abs.heap.bmainOk&&(valsOk TL.qv s.abs.heap&&(!importsNone TL.qv||s.abs.heap.noSeerOk)))))))=a_ (plainGoodD TL.qv [],(c_,(c_))):=by kernel_rfl
theorem TL.l3(w:k_)(os:OsState):(TL.rn w os).map (λs=>((((recsOf TL.qv).map λd=>s.abs.heap.tab0Ok d.name).take 22 |>.all id),((s.abs.heap.bltView))))=a_ (c_,(bltViewBooted)):=by kernel_rfl
theorem TL.l4(w:k_)(os:OsState):(TL.rn w os).map (λs=>((recsOf TL.qv).map λd=>s.abs.heap.tab0Ok d.name).drop 22 |>.all id)=a_ true:=by kernel_rfl
theorem TL.l5(w:k_)(os:OsState):(TL.rn w os).map (λs=>(((((recsOf TL.qv).map (·.name)).map (s.abs.heap.shapeAt dW)).take 18),(((ownsOf TL.qv).all (λo=>s.abs.heap.ownExcOk o.name o.chain o.bm o.newId&&s.abs.heap.quietOk o.name)&&(s.abs.heap.noLimitOk&&s.abs.heap.noDigitsOk)),((pinSeenD TL.qv (drecsOf TL.qv) s.abs),((s.abs.heap.accountedOkI (BV PySem.Challenge.rw_traylate_k43_whole_long_runs.row.prog.main.body)&&(s.abs.heap.isNs dW&&(s.abs.heap.isNs pW&&(tablesOk TL.qv s.abs.heap&&((W.xlAt TL.qv [] s.abs&&W.recOk PySem.Challenge.rw_traylate_k43_whole_long_runs.row.records s.abs)&&(s.abs.gens.size == 0)))))))))))=a_ ((((recsOf TL.qv).take 18).map λd=>a_ d.shape),(c_,(pinGoodD (drecsOf TL.qv),(c_)))):=by kernel_rfl
theorem TL.l6(w:k_)(os:OsState):(TL.rn w os).map (λs=>(((recsOf TL.qv).map (·.name)).map (s.abs.heap.shapeAt dW)).drop 18)=a_ ((((recsOf TL.qv).drop 18).map λd=>a_ d.shape)):=by kernel_rfl
end
namespace L2
def inClass(s:Stmt)(j:Nat):Stmt:=match s with
 | .ClassDef _ _ _ body _ _ _ _ _ _ _=>body.getD j (.Pass ⟨0,0,0,0⟩)
 | _=>.Pass ⟨0,0,0,0⟩
def jz(s:Stmt):Arguments:=match s with
 | .FunctionDef _ a _ _ _ _ _ _ _ _=>a
 | _=>{ posonlyargs:=[],args:=[],vararg:=b_,kwonlyargs:=[],kw_defaults:=[],kwarg:=b_,defaults:=[] }
def iG(s:Stmt):List Stmt:=match s with
 | .FunctionDef _ _ b _ _ _ _ _ _ _=>b
 | _=>[]
def aR(s:Stmt):Scope:=match s with
 | .FunctionDef _ _ _ _ _ _ sc _ _ _=>sc
 | _=>{ kind:=.function,names:=[],isGenerator:=d_,isCoroutine:=d_ }
end L2
namespace TL
open L2 L3 L4
def top(i:Nat):Stmt:=PySem.Challenge.pw_traylate_k43_whole_long_runs.main.body.getD i (.Pass ⟨0,0,0,0⟩)
abbrev Dt:Stmt:=inClass (top 14) 0
abbrev yj:Stmt:=top 22
abbrev Ag:Stmt:=top 23
abbrev CQ:Stmt:=top 24
abbrev HU:Stmt:=top 25
abbrev Ds:Stmt:=inClass (top 17) 0
abbrev Dd:Stmt:=inClass (top 18) 0
abbrev C9:Stmt:=inClass (top 21) 0
end TL
namespace TL
open L2 L3
abbrev Ed:Stmt:=inClass (top 47) 0
abbrev Jp:Stmt:=inClass (top 47) 1
abbrev Hl:Stmt:=inClass (top 47) 2
abbrev Cu:Stmt:=inClass (top 47) 3
abbrev IE:Stmt:=inClass (top 47) 4
abbrev HS:Stmt:=inClass (top 47) 5
abbrev Hk:Stmt:=inClass (top 47) 6
abbrev HR:Stmt:=top 48
end TL
namespace TL
open PySem.SeqAt L2 L3 L4
abbrev De:Stmt:=inClass (top 14) 5
abbrev Dc:Stmt:=inClass (top 53) 0
abbrev IQ:Stmt:=inClass (top 53) 1
abbrev IG:Stmt:=inClass (top 53) 2
abbrev Ho:Stmt:=inClass (top 53) 3
abbrev HX:Stmt:=inClass (top 53) 4
abbrev J8:Stmt:=inClass (top 53) 5
abbrev HY:Stmt:=inClass (top 53) 6
abbrev IJ:Stmt:=inClass (top 53) 7
abbrev HZ:Stmt:=inClass (top 53) 8
abbrev IM:Stmt:=inClass (top 53) 10
abbrev Jy:Stmt:=inClass (top 53) 11
abbrev Hn:Stmt:=inClass (top 53) 12
abbrev Hj:Stmt:=inClass (top 53) 18
abbrev IK:Stmt:=inClass (top 53) 20
abbrev Jt:Stmt:=inClass (top 53) 23
abbrev F2:Stmt:=top 52
abbrev Ju:Stmt:=top 51
abbrev J':Stmt:=top 42
abbrev Jv:Stmt:=top 43
abbrev Gs:Stmt:=top 44
abbrev Hm:Stmt:=top 50
abbrev AW:Stmt:=top 28
abbrev IP:Stmt:=top 29
abbrev Ib:Stmt:=top 31
abbrev Ia:Stmt:=top 30
abbrev CS:Stmt:=top 32
abbrev Hq:Stmt:=top 33
abbrev Jr:Stmt:=top 27
abbrev Ic:Stmt:=top 34
abbrev Ie:Stmt:=top 37
abbrev Jq:Stmt:=top 38
abbrev IL:Stmt:=top 36
abbrev Jx:Stmt:=inClass (top 53) 21
abbrev IF:Stmt:=top 39
abbrev Jw:Stmt:=top 55
abbrev IH:Stmt:=top 56
abbrev HV:Stmt:=inClass (top 53) 13
abbrev J7:Stmt:=top 57
abbrev II:Stmt:=top 58
abbrev HW:Stmt:=top 59
abbrev Js:Stmt:=top 60
abbrev KQ:Stmt:=top 61
abbrev v7:Stmt:=top 62
end TL
namespace HT
open PySem.W
theorem qy{α β γ:Type}{o:Option α}{f:α->β}{g:α->γ}{b:β}{c:γ}(h:o.map (λs=>(f s,g s))=a_ (b,c)):o.map f=a_ b:=by
 cases o with
 | none=>cases h
 | some s=>
  have h':(f s,g s)=(b,c):=cu h;exact congrArg a_ (vn h').1
theorem mi{α β γ:Type}{o:Option α}{f:α->β}{g:α->γ}{b:β}{c:γ}(h:o.map (λs=>(f s,g s))=a_ (b,c)):o.map g=a_ c:=by
 cases o with
 | none=>cases h
 | some s=>
  have h':(f s,g s)=(b,c):=cu h;exact congrArg a_ (vn h').2
theorem r9{α:Type}{o:Option α}{f g:α->Bool}(h1:o.map f=a_ c_)(h2:o.map g=a_ c_):o.map (λs=>f s&&g s)=a_ true:=by
 cases o with
 | none=>cases h1
 | some s=>
  have p:f s=true:=cu h1;show a_ (f s&&g s)=a_ c_;rw[p];exact h2
theorem t6{α:Type}{o:Option α}{f g:α->Bool}(h:o.map (λs=>f s&&g s)=a_ c_):o.map f=a_ c_/\o.map g=a_ true:=by
 cases o with
 | none=>cases h
 | some s=>
  have p:=MO.mp (cu h);exact⟨congrArg a_ p.1,congrArg a_ p.2⟩
theorem td{α β γ:Type}{o:Option α}{F:α->List β}{l:List γ}{g:γ->β}(k:Nat)(h1:o.map (λs=>(F s).take k)=a_ ((l.take k).map g))(h2:o.map (λs=>(F s).drop k)=a_ ((l.drop k).map g)):o.map F=a_ (l.map g):=by
 cases o with
 | none=>cases h1
 | some s=>
  refine congrArg a_ ?_;rw[<-List.take_append_drop k (F s),show (F s).take k=(l.take k).map g from cu h1,show (F s).drop k=(l.drop k).map g from cu h2,<-List.map_append,List.take_append_drop]
theorem IA{α:Type}{o:Option α}{F:α->List Bool}(k:Nat)(h1:o.map (λs=>((F s).take k).all id)=a_ c_)(h2:o.map (λs=>((F s).drop k).all id)=a_ c_):o.map (λs=>(F s).all id)=a_ true:=by
 cases o with
 | none=>cases h1
 | some s=>
  refine congrArg a_ ?_;show (F s).all id=c_;rw[<-List.take_append_drop k (F s),List.all_append,show ((F s).take k).all id=c_ from cu h1,show ((F s).drop k).all id=c_ from cu h2];rfl
theorem mkS{d D:List (Option FnShape)}{o g b n:Bool}(h1:d=D)(h2:o=c_)(h3:g=c_)(h4:b=c_)(h5:n=c_):(⟨d,o,[],g,b,n,0⟩:Seen)=⟨D,c_,[],c_,c_,c_,0⟩:=by
 subst h1 h2 h3 h4 h5;rfl
theorem tb_{α β:Type}{o:Option α}{l:List β}{f:α->β->Bool}(h:o.map (λs=>(l.map λd=>f s d).all id)=a_ c_):o.map (λs=>l.all λd=>f s d)=a_ true:=by
 cases o with
 | none=>cases h
 | some s=>
  refine congrArg a_ ?_;have e:(l.map λd=>f s d).all id=true:=cu h;rw[List.all_map]at e;exact e
theorem abC{w:k_}{N:Nat}{os:OsState}{Xt:g_->Bool}(hL:looseW q loose=L)
  (h3:(ly p w N os).map (λs=>s.abs.heap.keysOk L ((recsOf q).map (·.name)) ((litsOf q).map (·.1)) ((clssOf q L).map (·.name)))=a_ c_)
  (h5:(ly p w N os).map (λs=>s.abs.heap.accountedOkI mods&&(s.abs.heap.isNs dW&&(s.abs.heap.isNs pW&&(tablesOk q s.abs.heap&&(Xt s.abs&&(s.abs.gens.size == 0))))))=a_ c_)
  (h1:(ly p w N os).map (λs=>((recsOf q).map (·.name)).map (s.abs.heap.shapeAt dW))=a_ ((recsOf q).map λd=>a_ d.shape))
  (h6:(ly p w N os).map (λs=>(ownsOf q).all (λo=>s.abs.heap.ownExcOk o.name o.chain o.bm o.newId&&s.abs.heap.quietOk o.name)&&(s.abs.heap.noLimitOk&&s.abs.heap.noDigitsOk))=a_ c_)
  (h2:(ly p w N os).map (λs=>s.abs.heap.bltView)=a_ bltViewBooted)
  (h7:(ly p w N os).map (λs=>(recsOf q).all λd=>s.abs.heap.tab0Ok d.name)=a_ c_)
  (h8:(ly p w N os).map (λs=>s.abs.heap.bmainOk&&(valsOk q s.abs.heap&&(!importsNone q||s.abs.heap.noSeerOk)))=a_ c_)
  (h4:(ly p w N os).map (λs=>(pinSeenD q (drecsOf q) s.abs,(plainSeenE q L s.abs,(plainSeenD q loose s.abs,(wideSeen q s.abs,clsSeenW q loose s.abs)))))=a_ ((pinGoodD (drecsOf q),(plainGoodE q L,(plainGoodD q loose,(wideGood q,clsGoodW q loose)))))) :
  (ly p w N os).map (λs=>openSeen q loose mods Xt c_ s.abs)=a_ (openGood q loose):=by
 subst hL;obtain⟨a1,h5⟩:=t6 h5;obtain⟨a2,h5⟩:=t6 h5;obtain⟨a3,h5⟩:=t6 h5;obtain⟨a4,h5⟩:=t6 h5;obtain⟨a5,a6⟩:=t6 h5;obtain⟨b1,b2⟩:=t6 h6;obtain⟨c1,h8⟩:=t6 h8;obtain⟨c2,c3⟩:=t6 h8
 have sn:(ly p w N os).map (λs=>seen ((recsOf q).map (·.name)) (ownsOf q) [] { heap:=s.abs.heap,drawn:=s.abs.drawn,toks:=s.abs.toks,os:=s.abs.os })=a_ (expectedOf q):=by
  generalize ly p w N os=o at h1 a2 a3 b1 b2 ⊢;cases o with
  | none=>cases h1
  | some s=>
   refine congrArg a_ ?_;exact mkS (cu h1) (cu b1) (cu a2) (cu a3) (cu b2)
 have tb:(ly p w N os).map (λs=>tabsOk q s.abs)=a_ true:=r9 (r9 (r9 h7 c1) c2) c3;have a:=both sn (both h2 (both (r9 (r9 (r9 (r9 (r9 (r9 h3 a1) a2) a3) a4) a5) a6) (both tb h4)));exact a
end HT
namespace HT
open PySem.W
theorem Ik{g:e_->Option Obj}:∀l:List e_,(l.filterMap λa=>(g a).map λo=>(a,o)).lookup a=a_ o->g a=a_ o
 | [],h=>by cases h
 | b::r,h=>by
  rw[List.filterMap_cons]at h;cases e:g b with
  | none=>rw[e]at h;exact Ik r h
  | some x=>
   rw[e]at h;dsimp only[Option.map]at h;rw[List.lookup_cons]at h;cases q:a == b with
   | true=>rw[q]at h;cases h;rw[beq_iff_eq.mp q];exact e
   | false=>rw[q]at h;exact Ik r h
def rf:Option (Option f_)->e_
 | some (a_ (.ref a))=>a
 | _=>0
def Ef:Option (Option f_)->Bool
 | some (a_ (.ref _))=>c_
 | _=>d_
theorem qj{o:Option (Option f_)}(h:Ef o=c_):o=a_ (a_ (.ref (rf o))):=by
 unfold Ef at h
 split at h
 ·rfl
 ·cases h
def sr(o:Option (Option f_))(n:Int):Bool:=match o with
 | some (a_ (.int m _))=>decide (m=n)
 | _=>d_
theorem Dl{o:Option (Option f_)}{n:Int}(h:sr o n=c_):∃t,o=a_ (a_ (.int n t)):=by
 unfold sr at h
 split at h
 ·rename_i m t;exact⟨t,by rw[of_decide_eq_true h]⟩
 ·cases h
def KU(o:Option CFound)(f:e_):Bool:=match o with
 | some (.val (.ref a))=>Am a f
 | _=>d_
theorem adT{o:Option CFound}(h:KU o f=c_):o=a_ (.val (.ref f)):=by
 unfold KU at h
 split at h
 ·rw[Nat.eq_of_beq_eq_true h]
 ·cases h
abbrev oZ:=Str×Str×Arguments×FuncBody×i_×e_×List (Str×e_)×f_×e_
def bj(K:Frag)(f:e_):Option oZ:=match K.lookup f with
 | some ⟨_,_,.func d,_⟩=>a_ (d.name,d.qualname,d.params,d.body,d.scope,d.globals,d.closure,d.defaults,d.builtins)
 | _=>b_
def codeOk(K:Frag)(f:e_)(q:Str):Bool:=match K.lookup f with
 | some ⟨_,_,.func d,_⟩=>codeIn K d.code q
 | _=>d_
theorem vZ{K:Frag}{A:Arguments}{B:List Stmt}{S:i_}(h:bj K f=a_ (n,q,A,.stmts B,S,dW,[],.none,pW))(hc:codeOk K f q'=c_) :
  ∃(oc:f_) (od:Option e_) (kV dc pm:f_) (an:Option e_) (cd ct:f_) (sl:Array (Option f_)),K.lookup f=a_ ⟨oc,od,.func (fnOf n q A B S .none kV dc pm an cd ct),sl⟩/\codeIn K cd q'=true:=by
 unfold bj at h;unfold codeOk at hc
 split at h
 ·rename_i oc od d sl e
  rw[e]at hc;obtain⟨d1,d2,d3,d4,d5,d6,d7,d8,d9,d10,d11,d12,d13,d14,d15⟩:=d;simp only[xD,F1]at h;obtain⟨rfl,rfl,rfl,rfl,rfl,rfl,rfl,rfl,rfl⟩:=h;exact⟨oc,od,_,_,_,_,_,_,sl,e,hc⟩
 ·cases h
def DL(K:Frag)(f:e_):Option oZ:=match K.lookup f with
 | some ⟨_,_,.func d,_⟩=>a_ (d.name,d.qualname,d.params,d.body,d.scope,d.globals,d.closure,.none,d.builtins)
 | _=>b_
def DN(K:Frag)(f:e_)(x:Str):Bool:=match K.lookup f with
 | some ⟨_,_,.func d,_⟩=>(match d.defaults with
  | .ref T=>(match K.lookup T with
   | some ⟨_,_,.seq its _,_⟩=>(match its.toList with
    | [.str y _]=>decide (y=x)
    | _=>d_)
   | _=>d_)
  | _=>d_)
 | _=>d_
theorem adZ{K:Frag}{A:Arguments}{B:List Stmt}{S:i_}(h:DL K f=a_ (n,q,A,.stmts B,S,dW,[],.none,pW))(hc:codeOk K f q'=c_)(hd:DN K f x=c_) :
  ∃(oc:f_) (od:Option e_) (T:e_) (kV dc pm:f_) (an:Option e_) (cd ct:f_) (sl:Array (Option f_)) (c1:f_) (d1:Option e_) (n1:Nat) (sH:Array (Option f_)) (tk:Nat),K.lookup f=a_ ⟨oc,od,.func (fnOf n q A B S (.ref T) kV dc pm an cd ct),sl⟩/\codeIn K cd q'=c_/\K.lookup T=a_ ⟨c1,d1,.seq #[.str x tk] n1,sH⟩:=by
 unfold DL at h;unfold codeOk at hc;unfold DN at hd
 split at h
 ·rename_i oc od d sl e
  rw[e]at hc hd;obtain⟨d1,d2,d3,d4,d5,d6,d7,d8,d9,d10,d11,d12,d13,d14,d15⟩:=d;simp only[xD,F1]at h;obtain⟨rfl,rfl,rfl,rfl,rfl,rfl,rfl,_,rfl⟩:=h;cases d8 with
  | ref T=>
   have hd:(match K.lookup T with
    | some ⟨_,_,.seq its _,_⟩=>(match its.toList with
     | [.str y _]=>decide (y=x)
     | _=>d_)
    | _=>d_)=true:=hd
   split at hd
   ·rename_i c1 dd1 its n1 sH e1
    split at hd
    ·rename_i y tk ei
     rw[of_decide_eq_true hd]at ei
     have aim:its=#[.str x tk]:=by
      have:=congrArg List.toArray ei;simpa using this
     rw[aim]at e1;exact⟨oc,od,T,_,_,_,_,_,_,sl,c1,dd1,n1,sH,tk,e,hc,e1⟩
    ·cases hd
   ·cases hd
  | _=>cases hd
 ·cases h
def tX(h:j_)(as:List e_)(T:e_):Frag:=as.filterMap λa=>(if Am a T=c_ then b_ else h.get? a).map λo=>(a,o)
theorem N0(e:(tX h as T).lookup a=a_ o):a≠T/\h.get? a=a_ o:=by
 have z:=Ik (g:=λa=>if Am a T=c_ then b_ else h.get? a) _ e
 by_cases y:Am a T=c_
 ·rw[if_pos y]at z;cases z
 ·rw[if_neg y]at z;exact⟨λq=>y (by rw[q];exact Nat.beq_refl T),z⟩
theorem aaY(h:j_)(as:List e_)(T:e_):(tX h as T).In h:=λ_ _ e=>(N0 e).2
theorem aaX(h:j_)(as:List e_)(T:e_):(tX h as T).lookup T=none:=by
 cases e:(tX h as T).lookup T with
 | none=>rfl
 | some o=>exact absurd rfl (N0 e).1
def gT(s:SharedT)(a:e_):Option Obj:=match Nat.ble (a+1) s.n with
 | true=>alive ((s.tree.get a).getD default)
 | false=>b_
theorem RZ(s:SharedT)(a:e_):s.abs.heap.get? a=gT s a:=by
 show (absHeap s.tree s.n s.life).get? a=gT s a;unfold gT;cases h:Nat.ble (a+1) s.n with
 | true=>
  have h1:a<s.n:=Nat.le_of_ble_eq_true h;unfold Heap.get?;rw[absHeap_at,if_pos h1];generalize (s.tree.get a).getD default=o;show (match a_ o with | some ⟨_,_,.freed,_⟩=>b_ | o=>o)=alive o;obtain⟨c,d,dt,sl⟩:=o;cases dt <;> rfl
 | false=>exact abs_get_none λz=>by rw[Nat.ble_eq_true_of_le (show a+1<=s.n from z)]at h;cases h
def tW(s:SharedT)(as:List e_)(T:e_):Frag:=as.filterMap λa=>match Am a T with
 | true=>b_
 | false=>(gT s a).map λo=>(a,o)
theorem aaW(s:SharedT)(as:List e_)(T:e_):tX s.abs.heap as T=tW s as T:=by
 unfold tX tW
 congr 1
 funext a
 rw[RZ];cases Am a T <;> rfl
def vY:Option Obj->Bool
 | some ⟨.none,b_,.fields vs,sl⟩=>vs.size == 0&&sl.size == 0
 | _=>d_
theorem aaT{o:Option Obj}(h:vY o=c_):o=a_ (tabObj #[]):=by
 unfold vY at h
 split at h
 ·rename_i vs sl
  rw[nj]at h;have e1:=WT (beq_iff_eq.mp h.1);have e2:=WT (beq_iff_eq.mp h.2);subst e1;subst e2;rfl
 ·cases h
def rO(as:List e_)(T:e_)(obs:Frag->Bool×List (Option oZ))(val:Bool×List (Option oZ)):Hook:=
 ⟨Bool×(Bool×List (Option oZ)),λs=>(vY (s.heap.get? T),obs (tX s.heap as T)),λ_=>(c_,val),λ_ h=>∃K:Frag,K.In h/\K.lookup T=b_/\h.get? T=a_ (tabObj #[])/\obs K=val,λ_ s e=>⟨_,aaY s.heap as T,aaX _ _ _,aaT (vn e).1,(vn e).2⟩,λ_ _ _ ⟨K,a,n,t,b⟩ k=>⟨K,a.keeps k,n,k _ _ t,b⟩⟩
theorem adJ{obs:Frag->Bool×List (Option oZ)}{val:Bool×List (Option oZ)}{o:Option SharedT}(h1:o.map (λs=>vY (gT s T))=a_ c_)(h2:o.map (λs=>obs (tW s as T))=a_ val):o.map (λs=>(rO as T obs val).obs s.abs)=a_ (c_,val):=by
 have e:(λs:SharedT=>(rO as T obs val).obs s.abs)=λs=>(vY (gT s T),obs (tW s as T)):=by
  funext s
  show (vY (s.abs.heap.get? T),obs (tX s.abs.heap as T))=_;rw[RZ,aaW]
 rw[e];exact both h1 h2
def vR:f_->e_
 | .ref q=>q
 | _=>0
def vB:f_->Bool
 | .ref _=>c_
 | _=>d_
theorem aeB(h:vB v=c_):v=.ref (vR v):=by cases v <;> first | rfl | cases h
def yx(K:Frag)(f:e_):Addr:=match K.lookup f with
 | some ⟨_,_,.func d,_⟩=>vR d.code
 | _=>0
def DO(K:Frag)(f:e_):Bool:=match K.lookup f with
 | some ⟨_,_,.func d,_⟩=>vB d.code
 | _=>d_
theorem ad0{K:Frag}{A:Arguments}{B:List Stmt}{S:i_}(h:bj K f=a_ (n,q,A,.stmts B,S,dW,[],.none,pW))(hc:codeOk K f q'=c_)(hr:DO K f=c_) :
  ∃(oc:f_) (od:Option e_) (kV dc pm:f_) (an:Option e_) (ct:f_) (sl:Array (Option f_)),K.lookup f=a_ ⟨oc,od,.func (fnOf n q A B S .none kV dc pm an (.ref (yx K f)) ct),sl⟩/\codeIn K (.ref (yx K f)) q'=true:=by
 obtain⟨oc,od,kV,dc,pm,an,cd,ct,sl,e,c⟩:=vZ h hc
 have e2:cd=.ref (yx K f):=by
  unfold DO at hr;unfold yx;rw[e]at hr ⊢;exact aeB hr
 rw[e2]at e c;exact⟨oc,od,kV,dc,pm,an,ct,sl,e,c⟩
def p0:List f_->List Str->Bool
 | [],[]=>c_
 | .str y _::us,x::xs=>decide (y=x)&&p0 us xs
 | _,_=>d_
def tupS(K:Frag)(a:e_)(xs:List Str):Bool:=match K.lookup a with
 | some ⟨.type "tuple",_,.seq its _,_⟩=>p0 its.toList xs
 | _=>d_
end HT
namespace TL
open PySem.SeqAt L2 L3
def gN(K:u_)(x:Str):Addr:=HT.rf (W.nsIn K dW x)
def gM(K:u_)(c:e_)(x:Str):Addr:=HT.rf (w_ K (.ref c) x)
abbrev rN(K:u_)(x:Str):Prop:=HT.Ef (W.nsIn K dW x)=c_
abbrev zN(K:u_)(x:Str):Prop:=W.nsIn K dW x=a_ b_
abbrev no(K:u_)(c:e_)(x:Str):Prop:=w_ K (.ref c) x=a_ b_
abbrev fN(K:u_)(x:Str):Prop:=rN K x/\HT.codeOk K (gN K x) x=c_/\x_ K (.ref (gN K x))=c_
abbrev fM(K:u_)(c:e_)(m q:Str):Prop:=HT.Ef (w_ K (.ref c) m)=c_/\HT.codeOk K (gM K c m) q=c_/\x_ K (.ref (gM K c m))=c_/\W.isFn K (.ref (gM K c m))=c_
abbrev cK(K:u_)(x:Str):Prop:=rN K x/\W.plainGet K (gN K x) Str.empty=c_/\F_ K (gN K x)=c_/\W.plainOver K (gN K x)=c_/\w_ K (.ref (gN K x)) "__setattr__" = a_ (a_ (.builtin "object.__setattr__"))
abbrev mK(K:u_)(c:e_):Prop:=W.makesIn K c=c_/\x_ K (.ref c)=c_
def fp(n q:Str)(st:Stmt):Option HT.oZ:=a_ (n,q,jz st,.stmts (iG st),aR st,dW,[],.none,pW)
abbrev rH(K:u_):Addr:=gN K "Step"
abbrev gQ(K:u_):Addr:=gN K "Set"
abbrev gJ(K:u_):Addr:=gN K "Look"
abbrev gI(K:u_):Addr:=gN K "Skip"
abbrev Dp(K:u_):Addr:=gN K "Put"
abbrev Dq(K:u_):Addr:=gN K "Add"
abbrev C2(K:u_):Addr:=gN K "Swap"
abbrev eY(K:u_):Addr:=gN K "Tray"
abbrev cy(K:u_):Addr:=gN K "Machine"
abbrev PD(K:u_):Addr:=gN K "KINDS"
abbrev Tb(K:u_):Addr:=gN K "is_whole"
abbrev Te(K:u_):Addr:=gN K "bounds_of"
abbrev Tc(K:u_):Addr:=gN K "is_step"
abbrev Td(K:u_):Addr:=gN K "step_of"
abbrev DR(K:u_):Addr:=gM K (rH K) "__init__"
abbrev Jh(K:u_):Addr:=gM K (gQ K) "__init__"
abbrev Iy(K:u_):Addr:=gM K (gJ K) "__init__"
abbrev Iw(K:u_):Addr:=gM K (gI K) "__init__"
abbrev ud(K:u_):Addr:=gM K (rH K) "empties"
abbrev af3(K:u_):Addr:=gN K "has_clerks"
abbrev af4(K:u_):Addr:=gN K "fits"
abbrev af1(K:u_):Addr:=gN K "look_over"
abbrev Sd(K:u_):Addr:=gM K (eY K) "__init__"
abbrev afO(K:u_):Addr:=gM K (eY K) "add"
abbrev afL(K:u_):Addr:=gM K (eY K) "latest"
abbrev JS(K:u_):Addr:=gM K (eY K) "fronts"
abbrev afJ(K:u_):Addr:=gM K (eY K) "take"
abbrev afM(K:u_):Addr:=gM K (eY K) "is_empty"
abbrev afN(K:u_):Addr:=gM K (eY K) "listed"
abbrev afK(K:u_):Addr:=gN K "tray_of"
abbrev Ji(K:u_):Addr:=gM K (cy K) "__init__"
abbrev agk(K:u_):Addr:=gM K (cy K) "at_end"
abbrev afZ(K:u_):Addr:=gM K (cy K) "may_do"
abbrev agb(K:u_):Addr:=gM K (cy K) "carries"
abbrev af0(K:u_):Addr:=gM K (cy K) "moves"
abbrev af7(K:u_):Addr:=gM K (cy K) "do"
abbrev af6(K:u_):Addr:=gM K (cy K) "do_step"
abbrev af5(K:u_):Addr:=gM K (cy K) "do_set"
abbrev af9(K:u_):Addr:=gM K (cy K) "do_look"
abbrev aga(K:u_):Addr:=gM K (cy K) "carry"
abbrev agd(K:u_):Addr:=gM K (cy K) "come"
abbrev afX(K:u_):Addr:=gM K (cy K) "on_board"
abbrev afQ(K:u_):Addr:=gM K (cy K) "settle"
abbrev afI(K:u_):Addr:=gM K (cy K) "waiting"
abbrev af'(K:u_):Addr:=gM K (cy K) "deeds"
abbrev afV(K:u_):Addr:=gM K (cy K) "over"
abbrev af8(K:u_):Addr:=gM K (cy K) "deeds_done"
abbrev afT(K:u_):Addr:=gN K "place_behind"
abbrev af2(K:u_):Addr:=gN K "has_form_of_move"
abbrev afP(K:u_):Addr:=gN K "steps_of"
abbrev afY(K:u_):Addr:=gN K "neighbours"
abbrev age(K:u_):Addr:=gN K "by_own"
abbrev agg(K:u_):Addr:=gN K "by_seen"
abbrev agf(K:u_):Addr:=gN K "by_over"
abbrev agi(K:u_):Addr:=gN K "comers_behind"
abbrev agj(K:u_):Addr:=gN K "by_ahead"
abbrev afS(K:u_):Addr:=gN K "refuse_waiting"
abbrev agh(K:u_):Addr:=gN K "before"
abbrev afU(K:u_):Addr:=gN K "pairs_ahead"
abbrev afR(K:u_):Addr:=gN K "ring_of"
abbrev agc(K:u_):Addr:=gN K "counted_out"
abbrev afW(K:u_):Addr:=gN K "order"
abbrev aeq(K:u_):Addr:=gN K "_law_draw"
abbrev aem(K:u_):Addr:=gN K "_law_program"
abbrev aek(K:u_):Addr:=gN K "_law_run"
abbrev aep(K:u_):Addr:=gN K "_law_row_holds"
abbrev aen(K:u_):Addr:=gN K "_law_places"
abbrev aeo(K:u_):Addr:=gN K "_law_pair_holds"
abbrev ael(K:u_):Addr:=gN K "_law_ring_holds"
abbrev aej(K:u_):Addr:=gN K "law"
set_option synthInstance.maxSize 100000
set_option synthInstance.maxHeartbeats 0
abbrev d9(p:Prop)[Decidable p]:Bool:=decide p
def yJ(K:u_)(_:Unit):List Bool:=[d9 (cK K "Step"),d9 (cK K "Set"),d9 (mK K (gQ K)),d9 (no K (gQ K) "parts"),d9 (no K (gQ K) "name"),d9 (no K (gQ K) "reg"),d9 (cK K "Look"),d9 (mK K (gJ K)),d9 (no K (gJ K) "parts"),d9 (no K (gJ K) "reg"),d9 (no K (gJ K) "name"),d9 (cK K "Skip"),d9 (mK K (gI K)),d9 (no K (gI K) "parts"),d9 (no K (gI K) "reg"),d9 (no K (gI K) "place"),d9 (cK K "Put"),d9 (cK K "Add"),d9 (cK K "Swap"),d9 (cK K "Tray"),d9 (mK K (eY K)),d9 (no K (eY K) "kind"),d9 (no K (eY K) "turn"),d9 (no K (eY K) "queues"),d9 (cK K "Machine"),d9 (mK K (cy K)),d9 (no K (cy K) "trays"),d9 (no K (cy K) "program"),d9 (no K (cy K) "kind"),d9 (no K (cy K) "steps"),d9 (no K (cy K) "places"),d9 (no K (cy K) "counts"),d9 (no K (cy K) "regs"),d9 (no K (cy K) "cells"),d9 (no K (cy K) "acts"),d9 (no K (cy K) "comers"),d9 (fN K "is_whole"),d9 (fN K "bounds_of"),d9 (fN K "is_step"),d9 (fN K "step_of"),d9 (fM K (rH K) "__init__" "Step.__init__"),d9 (fM K (gQ K) "__init__" "Set.__init__"),d9 (fM K (gJ K) "__init__" "Look.__init__"),d9 (fM K (gI K) "__init__" "Skip.__init__"),d9 (fM K (rH K) "empties" "Step.empties"),d9 (fN K "has_clerks"),d9 (fN K "fits"),d9 (fN K "look_over"),d9 (fM K (eY K) "__init__" "Tray.__init__"),d9 (fM K (eY K) "add" "Tray.add"),d9 (fM K (eY K) "latest" "Tray.latest"),d9 (fM K (eY K) "fronts" "Tray.fronts"),d9 (HT.DO K (JS K)=c_),d9 (W.codeHdIn K (HT.yx K (JS K)) 499=c_),d9 (fM K (eY K) "take" "Tray.take"),d9 (fM K (eY K) "is_empty" "Tray.is_empty"),d9 (fM K (eY K) "listed" "Tray.listed"),d9 (fN K "tray_of"),d9 (fM K (cy K) "__init__" "Machine.__init__"),d9 (HT.DN K (Ji K) "row" = c_),d9 (fM K (cy K) "at_end" "Machine.at_end"),d9 (fM K (cy K) "may_do" "Machine.may_do"),d9 (fM K (cy K) "carries" "Machine.carries"),d9 (fM K (cy K) "moves" "Machine.moves"),d9 (fM K (cy K) "do" "Machine.do"),d9 (fM K (cy K) "do_step" "Machine.do_step"),d9 (fM K (cy K) "do_set" "Machine.do_set"),d9 (fM K (cy K) "do_look" "Machine.do_look"),d9 (fM K (cy K) "carry" "Machine.carry"),d9 (fM K (cy K) "come" "Machine.come"),d9 (fM K (cy K) "on_board" "Machine.on_board"),d9 (fM K (cy K) "settle" "Machine.settle"),d9 (fM K (cy K) "waiting" "Machine.waiting"),d9 (fM K (cy K) "deeds" "Machine.deeds"),d9 (fM K (cy K) "over" "Machine.over"),d9 (fM K (cy K) "deeds_done" "Machine.deeds_done"),d9 (fN K "place_behind"),d9 (fN K "has_form_of_move"),d9 (fN K "steps_of"),d9 (fN K "neighbours"),d9 (fN K "by_own"),d9 (fN K "by_seen"),d9 (fN K "by_over"),d9 (fN K "comers_behind"),d9 (fN K "by_ahead"),d9 (fN K "refuse_waiting"),d9 (fN K "before"),d9 (fN K "pairs_ahead"),d9 (fN K "ring_of"),d9 (fN K "counted_out"),d9 (fN K "order"),d9 (fN K "_law_draw"),d9 (fN K "_law_program"),d9 (fN K "_law_run"),d9 (fN K "_law_row_holds"),d9 (fN K "_law_places"),d9 (fN K "_law_pair_holds"),d9 (fN K "_law_ring_holds"),d9 (fN K "law"),d9 (w_ K (.ref (gQ K)) "empties" = a_ (a_ (.ref (ud K)))),d9 (w_ K (.ref (gJ K)) "empties" = a_ (a_ (.ref (ud K)))),d9 (w_ K (.ref (gI K)) "empties" = a_ (a_ (.ref (ud K)))),d9 (W.specialIn K (.ref (rH K)) "__getattribute__" = a_ (a_ (.builtin "type.__getattribute__"))),d9 (W.readsIn K (rH K) (.type "type")=c_),d9 (HT.KU (W.findCls K (.ref (rH K)) (.type "type") "__init__") (DR K)=c_),d9 (zN K "isinstance"),d9 (zN K "int"),d9 (zN K "bool"),d9 (zN K "str"),d9 (zN K "tuple"),d9 (zN K "len"),d9 (zN K "all"),d9 (zN K "zip"),d9 (zN K "enumerate"),d9 (zN K "range"),d9 (zN K "list"),d9 (zN K "min"),d9 (zN K "max"),d9 (zN K "sorted"),d9 (zN K "dict"),d9 (zN K "reversed"),d9 (zN K "set"),d9 (HT.sr (W.nsIn K dW "NAMES") 12=c_),d9 (HT.sr (W.nsIn K dW "REGISTERS") 4=c_),d9 (HT.sr (W.nsIn K dW "LONGEST") 120=c_),d9 (HT.sr (W.nsIn K dW "CLERKS") 4=c_),d9 (rN K "KINDS"),d9 (HT.tupS K (PD K) ["row","name","none"]=c_),d9 (W.specialIn K (.builtin "object.__class__") "__get__" = a_ (a_ (.builtin "getset_descriptor.__get__"))),d9 (W.takesIn K (.builtin "object.__class__")=a_ c_),d9 (w_ K (.ref (gQ K)) "__class__" = a_ (a_ (.builtin "object.__class__"))),d9 (A_ K (gQ K) (.type "object")=a_ c_),d9 (v_ K (.ref (gQ K)) (.ref (Dp K))=a_ d_),d9 (v_ K (.ref (gQ K)) (.ref (Dq K))=a_ d_),d9 (v_ K (.ref (gQ K)) (.ref (gQ K))=a_ c_),d9 (v_ K (.ref (gQ K)) (.ref (gJ K))=a_ d_),d9 (v_ K (.ref (gQ K)) (.ref (C2 K))=a_ d_),d9 (v_ K (.ref (gQ K)) (.ref (gI K))=a_ d_),d9 (w_ K (.ref (gJ K)) "__class__" = a_ (a_ (.builtin "object.__class__"))),d9 (A_ K (gJ K) (.type "object")=a_ c_),d9 (v_ K (.ref (gJ K)) (.ref (Dp K))=a_ d_),d9 (v_ K (.ref (gJ K)) (.ref (Dq K))=a_ d_),d9 (v_ K (.ref (gJ K)) (.ref (gQ K))=a_ d_),d9 (v_ K (.ref (gJ K)) (.ref (gJ K))=a_ c_),d9 (v_ K (.ref (gJ K)) (.ref (C2 K))=a_ d_),d9 (v_ K (.ref (gJ K)) (.ref (gI K))=a_ d_),d9 (w_ K (.ref (gI K)) "__class__" = a_ (a_ (.builtin "object.__class__"))),d9 (A_ K (gI K) (.type "object")=a_ c_),d9 (v_ K (.ref (gI K)) (.ref (Dp K))=a_ d_),d9 (v_ K (.ref (gI K)) (.ref (Dq K))=a_ d_),d9 (v_ K (.ref (gI K)) (.ref (gQ K))=a_ d_),d9 (v_ K (.ref (gI K)) (.ref (gJ K))=a_ d_),d9 (v_ K (.ref (gI K)) (.ref (C2 K))=a_ d_),d9 (v_ K (.ref (gI K)) (.ref (gI K))=a_ c_)]
def seen(K:u_):Bool:=(yJ K ()).all id
def oY:List Nat:=[3,2,0,1,6,31,44,56,75,87,99,118,172,193,212,238,264,304,323,349,529,737,24,30,37,43,49,55,61,74,80,86,92,98,104,117,123,171,179,192,198,211,217,237,243,263,269,303,309,322,328,348,474,528,560,736,19,21,70,72,113,115,132,134,139,141,146,148,153,155,160,162,167,169,188,190,207,209,226,228,233,235,252,254,259,261,278,280,285,287,292,294,299,301,318,320,337,339,344,346,356,358,363,365,368,370,375,377,382,384,387,389,392,394,397,399,404,406,411,413,418,420,425,427,430,432,435,437,442,444,449,451,454,456,461,463,468,470,481,483,488,490,495,497,500,502,507,509,512,514,517,519,524,526,538,540,543,545,548,550,555,557,568,570,575,577,582,584,587,589,592,594,599,601,606,608,613,615,620,622,627,629,634,636,641,643,648,650,655,657,662,664,669,671,676,678,683,685,690,692,697,699,704,706,711,713,718,720,725,727,732,734,746,748,751,753,756,758,761,763,768,770,773,775,778,780,783,785,4,5,7,8,9,10,11,12,13,14,15,16,17,18,20,22,23,25,26,27,28,29,32,33,34,35,36,38,39,40,41,42,45,46,47,48,50,51,52,53,54,57,58,59,60,62,63,64,65,66,67,68,69,71,73,76,77,78,79,81,82,83,84,85,88,89,90,91,93,94,95,96,97,100,101,102,103,105,106,107,108,109,110,111,112,114,116,119,120,121,122,124,125,126,127,128,129,130,131,133,135,136,137,138,140,142,143,144,145,147,149,150,151,152,154,156,157,158,159,161,163,164,165,166,168,170,173,174,175,176,177,178,180,181,182,183,184,185,186,187,189,191,194,195,196,197,199,200,201,202,203,204,205,206,208,210,213,214,215,216,218,219,220,221,222,223,224,225,227,229,230,231,232,234,236,239,240,241,242,244,245,246,247,248,249,250,251,253,255,256,257,258,260,262,265,266,267,268,270,271,272,273,274,275,276,277,279,281,282,283,284,286,288,289,290,291,293,295,296,297,298,300,302,305,306,307,308,310,311,312,313,314,315,316,317,319,321,324,325,326,327,329,330,331,332,333,334,335,336,338,340,341,342,343,345,347,350,351,352,353,354,355,357,359,360,361,362,364,366,367,369,371,372,373,374,376,378,379,380,381,383,385,386,388,390,391,393,395,396,398,400,401,402,403,405,407,408,409,410,412,414,415,416,417,419,421,422,423,424,426,428,429,431,433,434,436,438,439,440,441,443,445,446,447,448,450,452,453,455,457,458,459,460,462,464,465,466,467,469,471,472,473,475,476,477,478,479,480,482,484,485,486,487,489,491,492,493,494,496,498,499,501,503,504,505,506,508,510,511,513,515,516,518,520,521,522,523,525,527,530,531,532,533,534,535,536,537,539,541,542,544,546,547,549,551,552,553,554,556,558,559,561,562,563,564,565,566,567,569,571,572,573,574,576,578,579,580,581,583,585,586,588,590,591,593,595,596,597,598,600,602,603,604,605,607,609,610,611,612,614,616,617,618,619,621,623,624,625,626,628,630,631,632,633,635,637,638,639,640,642,644,645,646,647,649,651,652,653,654,656,658,659,660,661,663,665,666,667,668,670,672,673,674,675,677,679,680,681,682,684,686,687,688,689,691,693,694,695,696,698,700,701,702,703,705,707,708,709,710,712,714,715,716,717,719,721,722,723,724,726,728,729,730,731,733,735,738,739,740,741,742,743,744,745,747,749,750,752,754,755,757,759,760,762,764,765,766,767,769,771,772,774,776,777,779,781,782,784]
def oK(K:u_):List (Option HT.oZ):=[HT.bj K (Tb K),HT.bj K (Te K),HT.bj K (Tc K),HT.bj K (Td K),HT.bj K (DR K),HT.bj K (Jh K),HT.bj K (Iy K),HT.bj K (Iw K),HT.bj K (ud K),HT.bj K (af3 K),HT.bj K (af4 K),HT.bj K (af1 K),HT.bj K (Sd K),HT.bj K (afO K),HT.bj K (afL K),HT.bj K (JS K),HT.bj K (afJ K),HT.bj K (afM K),HT.bj K (afN K),HT.bj K (afK K),HT.DL K (Ji K),HT.bj K (agk K),HT.bj K (afZ K),HT.bj K (agb K),HT.bj K (af0 K),HT.bj K (af7 K),HT.bj K (af6 K),HT.bj K (af5 K),HT.bj K (af9 K),HT.bj K (aga K),HT.bj K (agd K),HT.bj K (afX K),HT.bj K (afQ K),HT.bj K (afI K),HT.bj K (af' K),HT.bj K (afV K),HT.bj K (af8 K),HT.bj K (afT K),HT.bj K (af2 K),HT.bj K (afP K),HT.bj K (afY K),HT.bj K (age K),HT.bj K (agg K),HT.bj K (agf K),HT.bj K (agi K),HT.bj K (agj K),HT.bj K (afS K),HT.bj K (agh K),HT.bj K (afU K),HT.bj K (afR K),HT.bj K (agc K),HT.bj K (afW K),HT.bj K (aeq K),HT.bj K (aem K),HT.bj K (aek K),HT.bj K (aep K),HT.bj K (aen K),HT.bj K (aeo K),HT.bj K (ael K),HT.bj K (aej K)]
def nH:List (Option HT.oZ):=[fp "is_whole" "is_whole" yj,fp "bounds_of" "bounds_of" Ag,fp "is_step" "is_step" CQ,fp "step_of" "step_of" HU,fp "__init__" "Step.__init__" Dt,fp "__init__" "Set.__init__" Ds,fp "__init__" "Look.__init__" Dd,fp "__init__" "Skip.__init__" C9,fp "empties" "Step.empties" De,fp "has_clerks" "has_clerks" J',fp "fits" "fits" Jv,fp "look_over" "look_over" Gs,fp "__init__" "Tray.__init__" Ed,fp "add" "Tray.add" Jp,fp "latest" "Tray.latest" Hl,fp "fronts" "Tray.fronts" Cu,fp "take" "Tray.take" IE,fp "is_empty" "Tray.is_empty" HS,fp "listed" "Tray.listed" Hk,fp "tray_of" "tray_of" HR,fp "__init__" "Machine.__init__" Dc,fp "at_end" "Machine.at_end" IQ,fp "may_do" "Machine.may_do" IG,fp "carries" "Machine.carries" Ho,fp "moves" "Machine.moves" HX,fp "do" "Machine.do" J8,fp "do_step" "Machine.do_step" HY,fp "do_set" "Machine.do_set" IJ,fp "do_look" "Machine.do_look" HZ,fp "carry" "Machine.carry" IM,fp "come" "Machine.come" Jy,fp "on_board" "Machine.on_board" Hn,fp "settle" "Machine.settle" HV,fp "waiting" "Machine.waiting" Hj,fp "deeds" "Machine.deeds" IK,fp "over" "Machine.over" Jt,fp "deeds_done" "Machine.deeds_done" Jx,fp "place_behind" "place_behind" F2,fp "has_form_of_move" "has_form_of_move" Ju,fp "steps_of" "steps_of" Hm,fp "neighbours" "neighbours" AW,fp "by_own" "by_own" IP,fp "by_seen" "by_seen" Ia,fp "by_over" "by_over" Ib,fp "comers_behind" "comers_behind" CS,fp "by_ahead" "by_ahead" Hq,fp "refuse_waiting" "refuse_waiting" Jr,fp "before" "before" Ic,fp "pairs_ahead" "pairs_ahead" Ie,fp "ring_of" "ring_of" Jq,fp "counted_out" "counted_out" IL,fp "order" "order" IF,fp "_law_draw" "_law_draw" Jw,fp "_law_program" "_law_program" IH,fp "_law_run" "_law_run" J7,fp "_law_row_holds" "_law_row_holds" II,fp "_law_places" "_law_places" HW,fp "_law_pair_holds" "_law_pair_holds" Js,fp "_law_ring_holds" "_law_ring_holds" KQ,fp "law" "law" v7]
def adO:Pos:=match v7 with
 | .FunctionDef _ _ _ _ _ _ _ _ _ p=>p
 | _=>default
def dl:DefRec:=⟨"law",jz v7,iG v7,aR v7,adO⟩
end TL
open PySem PySem.W PyProof.Rows in
theorem TL.mark_:True:=trivial
section
open PySem.W
theorem TL.l7(w:k_)(os:OsState):(TL.rn w os).map (λs=>(((HT.vY (HT.gT s 499),TL.oK (HT.tW s TL.oY 499))),(((((TL.yJ (HT.tW s TL.oY 499) ()).drop 90).drop 50).all id))))=a_ ((c_,TL.nH),(c_)):=by kernel_rfl
theorem TL.l8(w:k_)(os:OsState):(TL.rn w os).map (λs=>((TL.yJ (HT.tW s TL.oY 499) ()).take 90).all id)=a_ true:=by kernel_rfl
theorem TL.l9(w:k_)(os:OsState):(TL.rn w os).map (λs=>(((TL.yJ (HT.tW s TL.oY 499) ()).drop 90).take 50).all id)=a_ true:=by kernel_rfl
theorem TL.r2(w:k_)(os:OsState):(TL.rn w os).map (λs=>W.openSeen TL.qv [] (BV PySem.Challenge.rw_traylate_k43_whole_long_runs.row.prog.main.body) (λs=>W.xlAt TL.qv [] s&&W.recOk PySem.Challenge.rw_traylate_k43_whole_long_runs.row.records s) c_ s.abs)=a_ (W.openGood TL.qv []):=HT.abC TL.lw (HT.qy (TL.l0 w os)) (HT.mi (HT.mi (HT.mi (TL.l5 w os)))) (HT.td 18 (HT.qy (TL.l5 w os)) (TL.l6 w os)) (HT.qy (HT.mi (TL.l5 w os))) (HT.mi (TL.l3 w os)) (HT.tb_ (HT.IA 22 (HT.qy (TL.l3 w os)) (TL.l4 w os))) (HT.mi (HT.mi (TL.l2 w os))) (HT.both (HT.qy (HT.mi (HT.mi (TL.l5 w os)))) (HT.both (HT.mi (TL.l0 w os)) (HT.both (HT.qy (TL.l2 w os)) (TL.l1 w os))))
theorem TL.r3(w:k_)(os:OsState):(TL.rn w os).map (λs=>(HT.rO TL.oY 499 (λK=>(TL.seen K,TL.oK K)) (c_,TL.nH)).obs s.abs)=a_ (c_,(c_,TL.nH)):=HT.adJ (HT.qy (HT.qy (TL.l7 w os))) (HT.both (HT.IA 90 (TL.l8 w os) (HT.IA 50 (TL.l9 w os) (HT.mi (TL.l7 w os)))) (HT.mi (HT.qy (TL.l7 w os))))
end
namespace L2
universe u0 u1 u2 u3 u4 u5 u6 u7 u8 u9
section
variable{A:Sort u0}{B:Sort u1}{C:Sort u2}{D:Sort u3}{E:Sort u4}{F:Sort u5}{I:Sort u6}{J:Sort u7}{L:Sort u8}{M:Sort u9}{G:Prop}
theorem oA{p q:Prop}(H:p/\q)(K:p->q->G):G:=by
 obtain⟨k,m⟩:=H;exact K k m
theorem oE{p:A->Prop}(H:∃a,p a)(K:∀a,p a->G):G:=by
 obtain⟨a,k⟩:=H;exact K a k
theorem eT{p q r:Prop}(k:p)(m:q)(n:r):p/\q/\r:=⟨k,m,n⟩
theorem aA{p q:A->Prop}(a:A)(k:p a)(m:q a):∃a,p a/\q a:=⟨a,k,m⟩
theorem wB{p:A->B->Prop}(a:A)(b:B)(k:p a b):∃a b,p a b:=⟨a,b,k⟩
theorem dg{p q r:Prop}(H:p/\q/\r)(K:p->q->r->G):G:=by
 obtain⟨k,m,n⟩:=H;exact K k m n
theorem ai{p q:A->Prop}(H:∃a,p a/\q a)(K:∀a,p a->q a->G):G:=by
 obtain⟨a,k,m⟩:=H;exact K a k m
theorem yK{p:A->B->Prop}(H:∃a b,p a b)(K:∀a b,p a b->G):G:=by
 obtain⟨a,b,k⟩:=H;exact K a b k
theorem dQ{p q r:A->Prop}(a:A)(k:p a)(m:q a)(n:r a):∃a,p a/\q a/\r a:=⟨a,k,m,n⟩
theorem eO{p q:A->B->Prop}(a:A)(b:B)(k:p a b)(m:q a b):∃a b,p a b/\q a b:=⟨a,b,k,m⟩
theorem nK{p q r s:Prop}(H:p/\q/\r/\s)(K:p->q->r->s->G):G:=by
 obtain⟨k,m,n,o⟩:=H;exact K k m n o
theorem aO{p q r:A->Prop}(H:∃a,p a/\q a/\r a)(K:∀a,p a->q a->r a->G):G:=by
 obtain⟨a,k,m,n⟩:=H;exact K a k m n
theorem bX{p q:A->B->Prop}(H:∃a b,p a b/\q a b)(K:∀a b,p a b->q a b->G):G:=by
 obtain⟨a,b,k,m⟩:=H;exact K a b k m
theorem ag0{p:A->B->C->Prop}(H:∃a b c,p a b c)(K:∀a b c,p a b c->G):G:=by
 obtain⟨a,b,c,k⟩:=H;exact K a b c k
theorem dZ{p q r:A->B->Prop}(a:A)(b:B)(k:p a b)(m:q a b)(n:r a b):∃a b,p a b/\q a b/\r a b:=⟨a,b,k,m,n⟩
theorem dY{p:A->B->C->D->Prop}(a:A)(b:B)(c:C)(d:D)(k:p a b c d):∃a b c d,p a b c d:=⟨a,b,c,d,k⟩
theorem JC{p q r s t:Prop}(H:p/\q/\r/\s/\t)(K:p->q->r->s->t->G):G:=by
 obtain⟨k,m,n,o,h⟩:=H;exact K k m n o h
theorem cC{p q r s:A->Prop}(H:∃a,p a/\q a/\r a/\s a)(K:∀a,p a->q a->r a->s a->G):G:=by
 obtain⟨a,k,m,n,o⟩:=H;exact K a k m n o
theorem dC{p q r:A->B->Prop}(H:∃a b,p a b/\q a b/\r a b)(K:∀a b,p a b->q a b->r a b->G):G:=by
 obtain⟨a,b,k,m,n⟩:=H;exact K a b k m n
theorem Aw{p q:A->B->C->Prop}(H:∃a b c,p a b c/\q a b c)(K:∀a b c,p a b c->q a b c->G):G:=by
 obtain⟨a,b,c,k,m⟩:=H;exact K a b c k m
theorem afa{p:A->B->C->D->Prop}(H:∃a b c d,p a b c d)(K:∀a b c d,p a b c d->G):G:=by
 obtain⟨a,b,c,d,k⟩:=H;exact K a b c d k
theorem gL{p q r s t:A->Prop}(a:A)(k:p a)(m:q a)(n:r a)(o:s a)(h:t a):∃a,p a/\q a/\r a/\s a/\t a:=⟨a,k,m,n,o,h⟩
theorem qe{p q r s t u:Prop}(H:p/\q/\r/\s/\t/\u)(K:p->q->r->s->t->u->G):G:=by
 obtain⟨k,m,n,o,h,h1⟩:=H;exact K k m n o h h1
theorem ym{p q r s t:A->Prop}(H:∃a,p a/\q a/\r a/\s a/\t a)(K:∀a,p a->q a->r a->s a->t a->G):G:=by
 obtain⟨a,k,m,n,o,h⟩:=H;exact K a k m n o h
theorem ic{p q r s:A->B->Prop}(H:∃a b,p a b/\q a b/\r a b/\s a b)(K:∀a b,p a b->q a b->r a b->s a b->G):G:=by
 obtain⟨a,b,k,m,n,o⟩:=H;exact K a b k m n o
theorem iY{p q r:A->B->C->Prop}(H:∃a b c,p a b c/\q a b c/\r a b c)(K:∀a b c,p a b c->q a b c->r a b c->G):G:=by
 obtain⟨a,b,c,k,m,n⟩:=H;exact K a b c k m n
theorem nE{p q:A->B->C->D->Prop}(H:∃a b c d,p a b c d/\q a b c d)(K:∀a b c d,p a b c d->q a b c d->G):G:=by
 obtain⟨a,b,c,d,k,m⟩:=H;exact K a b c d k m
theorem fj{p:A->B->C->D->E->Prop}(H:∃a b c d e,p a b c d e)(K:∀a b c d e,p a b c d e->G):G:=by
 obtain⟨a,b,c,d,e,k⟩:=H;exact K a b c d e k
theorem jy{p q r s t u:A->Prop}(a:A)(k:p a)(m:q a)(n:r a)(o:s a)(h:t a)(h1:u a):∃a,p a/\q a/\r a/\s a/\t a/\u a:=⟨a,k,m,n,o,h,h1⟩
theorem Qd{p q r s t u v:Prop}(H:p/\q/\r/\s/\t/\u/\v)(K:p->q->r->s->t->u->v->G):G:=by
 obtain⟨k,m,n,o,h,h1,h2⟩:=H;exact K k m n o h h1 h2
theorem acj{p q r s t u:A->Prop}(H:∃a,p a/\q a/\r a/\s a/\t a/\u a)(K:∀a,p a->q a->r a->s a->t a->u a->G):G:=by
 obtain⟨a,k,m,n,o,h,h1⟩:=H;exact K a k m n o h h1
theorem Qc{p q r s t:A->B->Prop}(H:∃a b,p a b/\q a b/\r a b/\s a b/\t a b)(K:∀a b,p a b->q a b->r a b->s a b->t a b->G):G:=by
 obtain⟨a,b,k,m,n,o,h⟩:=H;exact K a b k m n o h
theorem aci{p q:A->B->C->D->E->Prop}(H:∃a b c d e,p a b c d e/\q a b c d e)(K:∀a b c d e,p a b c d e->q a b c d e->G):G:=by
 obtain⟨a,b,c,d,e,k,m⟩:=H;exact K a b c d e k m
theorem jU{p q r s t:A->B->C->Prop}(a:A)(b:B)(c:C)(k:p a b c)(m:q a b c)(n:r a b c)(o:s a b c)(h:t a b c):∃a b c,p a b c/\q a b c/\r a b c/\s a b c/\t a b c:=⟨a,b,c,k,m,n,o,h⟩
theorem dX{p q r s t u:A->B->Prop}(H:∃a b,p a b/\q a b/\r a b/\s a b/\t a b/\u a b)(K:∀a b,p a b->q a b->r a b->s a b->t a b->u a b->G):G:=by
 obtain⟨a,b,k,m,n,o,h,h1⟩:=H;exact K a b k m n o h h1
theorem Ce{p q r s t u:A->B->C->Prop}(H:∃a b c,p a b c/\q a b c/\r a b c/\s a b c/\t a b c/\u a b c)(K:∀a b c,p a b c->q a b c->r a b c->s a b c->t a b c->u a b c->G):G:=by
 obtain⟨a,b,c,k,m,n,o,h,h1⟩:=H;exact K a b c k m n o h h1
theorem kL{p q r s t u:A->B->C->D->Prop}(a:A)(b:B)(c:C)(d:D)(k:p a b c d)(m:q a b c d)(n:r a b c d)(o:s a b c d)(h:t a b c d)(h1:u a b c d):∃a b c d,p a b c d/\q a b c d/\r a b c d/\s a b c d/\t a b c d/\u a b c d:=⟨a,b,c,d,k,m,n,o,h,h1⟩
theorem B8{p:A->B->C->D->E->F->I->J->L->M->Prop}(H:∃a b c d e f g i j l,p a b c d e f g i j l)(K:∀a b c d e f g i j l,p a b c d e f g i j l->G):G:=by
 obtain⟨a,b,c,d,e,f,g,i,j,l,k⟩:=H;exact K a b c d e f g i j l k
end
theorem w0{p:Prop}(h:p:=by with_reducible assumption):p:=h
theorem w1{a:Nat}  : a<=a:=aw a
theorem w2{a:Nat}  : 0<=a:=aP a
theorem w3{a b:Nat}(h:a<b:=by with_reducible assumption):a<=b:=c8 h
theorem w4{a b c:Nat}(h:a<=b:=by with_reducible assumption)(g:b<=c:=by decide):a<=c:=cx h g
theorem w5{a b c:Nat}(h:a<b:=by with_reducible assumption)(g:b<=c:=by decide):a<=c:=cx (c8 h) g
theorem w6{a b c:Nat}(h:a=b:=by with_reducible assumption)(g:b<=c:=by decide):a<=c:=cx (nz h) g
theorem w7{a b c:Nat}(h:a=b:=by with_reducible assumption)(g:b<=c:=by with_reducible assumption):a<=c:=cx (nz h) g
theorem w8{a b c d:Nat}(h:a=b:=by with_reducible assumption)(g:b<=c:=by with_reducible assumption)(k:c<=d:=by decide):a<=d:=cx (nz h) (cx g k)
theorem w9{a b c d:Nat}(h:b=a:=by with_reducible assumption)(g:b<=c:=by with_reducible assumption)(k:c<=d:=by decide):a<=d:=cx (nz h.symm) (cx g k)
theorem wa{a b c:Nat}(h:a<b:=by with_reducible assumption)(g:b<=c:=by decide):a<c:=gq h g
theorem wb{a b c:Nat}(h:a<=b:=by with_reducible assumption)(g:b<c:=by decide):a<c:=tm h g
theorem wd{a b c d:Nat}(h:a=b:=by with_reducible assumption)(g:b<=c:=by with_reducible assumption)(k:c<d:=by decide):a<d:=tm (nz h) (tm g k)
theorem wf{a b c:Nat}(h:a<b:=by with_reducible assumption)(g:b=c:=by with_reducible assumption):a<c:=MS h g
theorem wg{a b c:Nat}(h:a<b:=by with_reducible assumption)(g:c=b:=by with_reducible assumption):a<c:=MS h g.symm
theorem wh{a b c:Nat}(h:a<b:=by with_reducible assumption)(g:b<=c:=by with_reducible assumption):a<c:=gq h g
theorem wi{a b c:Nat}(h:a<=b:=by with_reducible assumption)(g:b<c:=by with_reducible assumption):a<c:=tm h g
theorem wk{a b c m:Nat}(h:a=b+m*c:=by with_reducible assumption)(g:a<b:=by decide):False:=by omega
theorem wl{a b c m:Nat}(h:b+m*c=a:=by with_reducible assumption)(g:a<b:=by decide):False:=by omega
theorem wo{a b c:Nat}(h:a=b:=by with_reducible assumption)(g:b=c:=by with_reducible assumption):a=c:=h.trans g
theorem wr{a b c:Nat}(h:a=b:=by with_reducible assumption)(g:c<b:=by with_reducible assumption):c<a:=MS g h.symm
theorem ws{a b c:Nat}(h:a=b:=by with_reducible assumption)(g:b<=c:=by with_reducible assumption):a<=c:=cx (nz h) g
theorem wu{a b c d e:Nat}(h:a=b:=by with_reducible assumption)(g:b=c:=by with_reducible assumption)(k:c<=d:=by with_reducible assumption)(m:d<=e:=by decide):a<=e:=cx (nz (h.trans g)) (cx k m)
theorem xc{a b c d e:Nat}(h:a<b:=by with_reducible assumption)(g:b=c:=by with_reducible assumption)(k:c<=d:=by with_reducible assumption)(m:d<=e:=by decide):a<=e:=cx (c8 h) (cx (nz g) (cx k m))
theorem xd{a:Nat}  : a<=a+1:=kJ a
theorem xe{a b:Nat}(h:a<b:=by with_reducible assumption):a<=b+1:=vk (c8 h)
theorem xf{a b:Nat}(h:a<b:=by with_reducible assumption):a+1<=b:=h
theorem xi{a b c e:Nat}(h:a<=b+1:=by with_reducible assumption)(g:b<=c:=by with_reducible assumption)(k:c+1<e:=by decide):a<e:=tm h (tm (qX g) k)
theorem xl{a n:Nat}  : min a n<=a:=xG a n
theorem xm{a:Int}(h:0<=a:=by with_reducible assumption):a=(a.toNat:Int):=(BQ h).symm
end L2
namespace L2
abbrev Key:=Option Int
def afv:f_->Bool
 | .none=>c_
 | _=>d_
def Ax:Key->f_->Bool
 | some k,v=>Value.isInt k v
 | none,v=>afv v
def ag6:Key->Int
 | some k=>hashInt k
 | none=>4238894112
theorem rj:∀{k:Key} {v:f_},Ax k v=c_->(∃i t,k=a_ i/\v=eX i t)\/(k=b_/\v=oo)
 | some i,v,h=>by
  obtain⟨t,e⟩:=Xu (k:=i) (v:=v) h;exact .inl ⟨i,t,rfl,e⟩
 | none,v,h=>by
  cases v <;> first | exact .inr ⟨rfl,rfl⟩ | cases h
theorem Zt(i:Int)(t:Tok):Ax (a_ i) (.int i t)=true:=by simp[Ax,Value.isInt]
theorem adR(a b:Int):decide ((a_ a:Key)=a_ b)=(a == b):=by
 by_cases e:a=b
 ·subst e;simp
 ·simp[e]
theorem Zy{w:k_}{Q:Int->g_->Prop}(h:Q 4238894112 { s with toks:=s.toks+1 }):wpAny (model prog w) A (pyHash .none) Q E s:=by
 show wpAny (model prog w) A (pyHashByItsType .none) Q E s;refine W.pyHash_slot (T:="NoneType") rfl F.slot_NoneType_hash F.entry_NoneType_hash (F.args_NoneType_hash_1 _) rfl (.inl rfl) (aj (show wpAny (model prog w) A.in1 (pure (oo,[])) _ E s from aM ?_))
 exact gG (wpAny_ret_mkInt (Q:=λv s'=>∃n t,v=eX n t/\Q (reduceHash n) s') ⟨_,_,rfl,h⟩) (λfin s' z=>by
  obtain⟨v,e,n,t,e2,q⟩:=z;exact⟨n,t,by rw[e,e2],q⟩) λ_ _ x=>x
def gc(prog:l_)(w:k_):PySem.KeyKind prog w Key where
 is:=Ax
 hash:=ag6
 inj:=λv a b ha hb=>by
  rcases rj ha with ⟨i,t,rfl,rfl⟩ | ⟨rfl,rfl⟩
  ·rcases rj hb with ⟨j,u,rfl,e⟩ | ⟨rfl,e⟩
   ·injection e with e1 _;rw[e1]
   ·exact nomatch e
  ·rcases rj hb with ⟨j,u,rfl,e⟩ | ⟨rfl,e⟩
   ·exact nomatch e
   ·rfl
 byValue:=λk v h=>by
  rcases rj h with ⟨i,t,rfl,rfl⟩ | ⟨rfl,rfl⟩ <;> rfl
 pyHash:=λhv h=>by
  rcases rj hv with ⟨i,t,rfl,rfl⟩ | ⟨rfl,rfl⟩
  ·exact wpAny_pyHash_int h
  ·exact Zy h
 eqBool:=λhu hv h=>by
  rcases rj hu with ⟨i,t,rfl,rfl⟩ | ⟨rfl,rfl⟩
  ·rcases rj hv with ⟨j,u,rfl,rfl⟩ | ⟨rfl,rfl⟩
   ·rw[adR]at h;exact MX h
   ·exact Xk i t _ _ _ _ h
  ·rcases rj hv with ⟨j,u,rfl,rfl⟩ | ⟨rfl,rfl⟩
   ·exact Xj j u _ _ _ _ h
   ·exact jw (Nc (λ_=>aj (vv (aM h))) λz=>absurd rfl z)
 «strs»:=λk x t v h=>by
  rcases rj h with ⟨i,u,rfl,e⟩ | ⟨rfl,e⟩ <;> exact nomatch e
theorem YE(prog:l_)(w:k_)(k:Key)(v:f_):(gc prog w).is k v=Ax k v:=rfl
theorem X7(prog:l_)(w:k_)(i:Int)(t:Tok):(gc prog w).is (a_ i) (.int i t)=true:=Zt i t
inductive V where
 | aH | bl (b:Bool) | int (i:Int) | str (x:Str) | nS (b:Array UInt8) | sA (b:UInt64) | ref (a:e_) | ty (n:String)
 deriving DecidableEq
def RelV:V->f_->Prop
 | .aH,u=>u=oo
 | .bl b,u=>u=tF b
 | .int i,u=>∃t,u=eX i t
 | .str x,u=>∃t,u=vw x t
 | .nS b,u=>∃t,u=Value.bytes b t
 | .sA b,u=>∃t,u=NH b t
 | .ref a,u=>u=cR a
 | .ty n,u=>u=pY n
abbrev Vals:List V->List f_->Prop:=Paired RelV
theorem Vals.length(r:Vals xs us):xs.length=us.length:=r_ r
theorem Vals.get:∀{xs:List V} {us:List f_} {i:Nat} {x:V},Vals xs us->xs[i]?=a_ x->∃u,us[i]?=a_ u/\RelV x u
 | _,_,_,_,.nil,e=>by simp at e
 | _,_,0,_,.cons r _,e=>by simp at e;subst e;exact⟨_,rfl,r⟩
 | _,_,i+1,x,.cons _ t,e=>by
  obtain⟨u,h1,h2⟩:=Vals.get (i:=i) (x:=x) t (by simpa using e);exact⟨u,by simpa using h1,h2⟩
theorem Vals.set(r:RelV x u):∀{xs:List V} {us:List f_} (i:Nat),Vals xs us->Vals (xs.set i x) (us.set i u)
 | _,_,_,.nil=>.nil
 | _,_,0,.cons _ t=>.cons r t
 | _,_,i+1,.cons q t=>.cons q (Vals.set r i t)
theorem Vals.append:∀{xs ys:List V} {us ws:List f_},Vals xs us->Vals ys ws->Vals (xs++ys) (us++ws)
 | _,_,_,_,.nil,s=>s
 | _,_,_,_,.cons r t,s=>.cons r (Vals.append t s)
theorem Vals.take:∀{xs:List V} {us:List f_} (n:Nat),Vals xs us->Vals (xs.take n) (us.take n)
 | _,_,0,_=>.nil
 | _,_,_+1,.nil=>.nil
 | _,_,n+1,.cons r t=>.cons r (Vals.take n t)
theorem Vals.drop:∀{xs:List V} {us:List f_} (n:Nat),Vals xs us->Vals (xs.drop n) (us.drop n)
 | _,_,0,r=>r
 | _,_,_+1,.nil=>.nil
 | _,_,n+1,.cons _ t=>Vals.drop n t
def i5:Option V->Option f_->Prop
 | some v,a_ u=>RelV v u
 | none,b_=>True
 | _,_=>False
def KV{κ:Type}:List (κ×V)->List (κ×f_)->Prop:=Paired λ(p:κ×V) (q:κ×f_)=>p.1=q.1/\RelV p.2 q.2
def kV:Key->V
 | some i=>.int i
 | none=>.aH
inductive HO where
  | lst (xs:List V)
  | tup (xs:List V)
  | dK (kvs:List (Key×V)) | dT (kvs:List (List Key×V))
  | set (S:Int->Bool) (n:Nat)
  | ins (C dx:e_) (fs:List (Str×V))
  | own (x:e_)
  | xd (fs:List (Str×V))
  | met (f x:e_)
  | KR (lo hi:Int)
  | lC (o:Obj) (u:HO)
  | eh (ps:Array f_)
  | ext (φ:j_->Prop)
abbrev Hp:=e_->Option HO
def upd(H:Hp)(a:e_)(o:HO):Hp:=λb=>if b=a then a_ o else H b
theorem ao{o:HO}:upd H a o a=a_ o:=by unfold upd;rw[if_pos rfl]
theorem ag{o:HO}(h:b≠a):upd H a o b=H b:=by unfold upd;rw[if_neg h]
theorem vA{o u:HO}:upd (upd H a o) a u=upd H a u:=by
 funext b;unfold upd;split <;> rfl
theorem ie{H:Hp}{a b:e_}{o u:HO}(h:H a=a_ o)(h':H b=a_ u)(d:o≠u):a≠b:=by
 intro e;subst e;rw[h]at h';exact d (cu h')
theorem cG{H:Hp}{a b:e_}{o:HO}(h:H a=a_ o)(h':H b=b_):a≠b:=by
 intro e;subst e;rw[h]at h';cases h'
section
variable(P:l_)(w:k_)
def de(H:Hp)(h:j_)(a:e_):HO->Prop
 | .lst xs=>xs.length<=a9/\∃(its:List f_) (n:Nat),Vals xs its/\h.get? a=a_ { cls:=.type "list",data:=.seq its.toArray n }
 | .tup xs=>xs.length<=a9/\∃its:List f_,Vals xs its/\IsTup h a its.toArray
 | .dK kvs=>kvs.length<=a9/\(a == oj)=d_/\∃vs,KV kvs vs/\h.DictOf (gc P w) a vs
 | .dT kvs=>kvs.length<=a9/\(a == oj)=d_/\∃xs:List (List Key×e_×f_),Paired (λ(p:List Key×V) (q:List Key×e_×f_)=>p.1=q.1/\H q.2.1=a_ (.tup (p.1.map kV))/\RelV p.2 q.2.2) kvs xs/\
   ∃o es ep,h.get? a=a_ o/\o.ExactDict/\o.data=.dict es ep/\es.toList=xs.map (entryOfKey (xV (gc P w)))/\(xs.map (·.1)).Nodup
 | .set S n=>h.SetOf (intKind P w) a S n
 | .ins C dx fs=>H dx=a_ (.own a)/\fs.length<=1000/\dx≠a/\h.get? a=a_ (W.instObj C dx)/\
   ∃mA,h.Ns1 dx mA/\(∀f,i5 (fs.lookup f) (mA f))/\PySem.Within mA (fs.map (·.1))
 | .own _=>∃o,h.get? a=a_ o
 | .xd fs=>∃mA,h.Ns1 a mA/\∀f,i5 (fs.lookup f) (mA f)
 | .KR lo hi=>∃t u v,h.get? a=a_ { cls:=.type "range",data:=.fields #[.int lo t,.int hi u,.int 1 v] }
 | .lC o u=>h.get? a=a_ o/\de H h a u
 | .eh ps=>h.get? a=a_ { cls:=.none,data:=.fields ps }
 | .met f x=>h.get? a=a_ (W.methodObj (.ref f) (.ref x))
 | .ext φ=>φ h/\(∃o,h.get? a=a_ o)/\∀h1 h2:j_,φ h1->(∀o,h1.get? a=a_ o->h2.get? a=a_ o)->φ h2
def dU(H:Hp)(h:j_):Prop:=∀a o,H a=a_ o->de P w H h a o
end
section
variable{P:l_}{w:k_}{H H':Hp}{h h':j_}{a:e_}{o:HO}
theorem de.lt(x:de P w H h a o):a<h.objs.size:=by
 cases o with
 | lst xs=>obtain⟨_,_,_,_,e⟩:=x;exact bq e
 | tup xs=>obtain⟨_,_,_,p⟩:=x;exact p.lt
 | dK kvs=>obtain⟨_,_,_,_,o,_,_,e,_⟩:=x;exact bq e
 | dT kvs=>obtain⟨_,_,_,_,o,_,_,e,_⟩:=x;exact bq e
 | set S n=>obtain⟨o,_,_,_,e,_⟩:=x;exact bq e
 | ins C dx fs=>obtain⟨_,_,_,e,_⟩:=x;exact bq e
 | own y=>obtain⟨_,e⟩:=x;exact bq e
 | xd fs=>obtain⟨_,⟨_,_,_,e,_⟩,_⟩:=x;exact bq e
 | KR lo hi=>obtain⟨_,_,_,e⟩:=x;exact bq e
 | lC ob u=>obtain⟨e,_⟩:=x;exact bq e
 | eh ps=>exact bq (show h.get? a=a_ _ from x)
 | met f y=>exact bq (show h.get? a=a_ _ from x)
 | ext φ=>obtain⟨_,⟨_,e⟩,_⟩:=x;exact bq e
theorem Paired.b9{α β:Type}{F G:α->β->Prop}:∀{l₁:List α} {l₂:List β},Paired F l₁ l₂->(∀a b,F a b->G a b)->Paired G l₁ l₂
 | _,_,.nil,_=>.nil
 | _,_,.cons r t,f=>.cons (f _ _ r) (Paired.b9 t f)
theorem de.rZ(x:de P w H h a o)(k:∀b u,(b=a\/H b=a_ (.own a))->h.get? b=a_ u->h'.get? b=a_ u)
  (ho:∀b,H b=a_ (.own a)->H' b=a_ (.own a)) (ht:∀b xs,H b=a_ (.tup xs)->H' b=a_ (.tup xs)):de P w H' h' a o:=by
 induction o with
 | lst xs=>obtain⟨z,its,n,r,e⟩:=x;exact⟨z,its,n,r,k _ _ (.inl rfl) e⟩
 | tup xs=>obtain⟨z,its,r,ob,e,c⟩:=x;exact⟨z,its,r,ob,k _ _ (.inl rfl) e,c⟩
 | dK kvs=>obtain⟨z,y,vs,r,ob,es,ep,e,c⟩:=x;exact⟨z,y,vs,r,ob,es,ep,k _ _ (.inl rfl) e,c⟩
 | dT kvs=>
  obtain⟨z,y,xs,r,ob,es,ep,e,c⟩:=x;exact⟨z,y,xs,Paired.b9 r λp q z=>⟨z.1,ht _ _ z.2.1,z.2.2⟩,ob,es,ep,k _ _ (.inl rfl) e,c⟩
 | set S n=>obtain⟨ob,es,ep,t,e,c⟩:=x;exact⟨ob,es,ep,t,k _ _ (.inl rfl) e,c⟩
 | ins C dx fs=>
  obtain⟨d,z,ne,e,mA,⟨od,es,ep,e2,c⟩,r⟩:=x;exact⟨ho _ d,z,ne,k _ _ (.inl rfl) e,mA,⟨od,es,ep,k _ _ (.inr d) e2,c⟩,r⟩
 | own y=>obtain⟨ob,e⟩:=x;exact⟨ob,k _ _ (.inl rfl) e⟩
 | xd fs=>obtain⟨mA,⟨od,es,ep,e,c⟩,r⟩:=x;exact⟨mA,⟨od,es,ep,k _ _ (.inl rfl) e,c⟩,r⟩
 | KR lo hi=>obtain⟨t,u,v,e⟩:=x;exact⟨t,u,v,k _ _ (.inl rfl) e⟩
 | lC ob u ih=>obtain⟨e,q⟩:=x;exact⟨k _ _ (.inl rfl) e,ih q⟩
 | eh ps=>
  have e:h.get? a=a_ { cls:=.none,data:=.fields ps }:=x;show h'.get? a=a_ { cls:=.none,data:=.fields ps };exact k a _ (.inl rfl) e
 | met f y=>
  have e:h.get? a=a_ (W.methodObj (.ref f) (.ref y)):=x;show h'.get? a=a_ (W.methodObj (.ref f) (.ref y));exact k a _ (.inl rfl) e
 | ext φ=>obtain⟨p,⟨o,e⟩,st⟩:=x;exact⟨st _ _ p λo q=>k _ _ (.inl rfl) q,⟨o,k _ _ (.inl rfl) e⟩,st⟩
theorem dU.lt(x:dU P w H h)(e:H a=a_ o):a<h.objs.size:=(x a o e).lt
theorem dU.fresh(x:dU P w H h)(e:h.objs.size<=a):H a=none:=by
 cases q:H a with
 | none=>rfl
 | some u=>exact absurd (gq (x.lt q) e) (nu _)
theorem dU.kept(x:dU P w H h)(k:∀b u,h.get? b=a_ u->h'.get? b=a_ u):dU P w H h':=λa o e=>
 (x a o e).rZ (λb u _ q=>k b u q) (λ_ q=>q) λ_ _ q=>q
theorem dU.laid(x:dU P w H h)(k:∀b u,h.get? b=a_ u->h'.get? b=a_ u)(hp:h.objs.size<=a)(new:de P w (upd H a o) h' a o):dU P w (upd H a o) h':=λb u e=>by
 have hn:=x.fresh hp
 by_cases hb:b=a
 ·subst hb;rw[ao]at e;cases e;exact new
 ·rw[ag hb]at e;exact(x b u e).rZ (λc v _ q=>k c v q) (λc q=>by rw[ag (cG q hn)];exact q) λc xs q=>by rw[ag (cG q hn)];exact q
end
def Rd(H:Hp)(a:e_)(u:HO):Prop:=H a=a_ u\/∃o,H a=a_ (.lC o u)
theorem Rd.ok{P:l_}{w:k_}{u:HO}(r:Rd H a u)(x:dU P w H h):de P w H h a u:=by
 rcases r with r | ⟨o,r⟩
 ·exact x a u r
 ·obtain⟨_,q⟩:=x a _ r;exact q
def A1:Option HO->Prop
 | some (.lst _)=>True
 | some (.dK _)=>True
 | some (.dT _)=>True
 | some (.set _ _)=>True
 | some (.ins _ _ _)=>True
 | some (.ext _)=>True
 | _=>False
section
variable{P:l_}{w:k_}{H:Hp}{h h':j_}{x e:e_}{o':HO}
theorem dU.write(ok:dU P w H h)(mu:A1 (H x))(he:e=x\/H e=a_ (.own x))(k:∀b u,b≠e->h.get? b=a_ u->h'.get? b=a_ u)(zf:∃u,h'.get? e=a_ u)
  (new:de P w (upd H x o') h' x o'):dU P w (upd H x o') h':=λb u q=>by
 have Tg:∀c y,H c=a_ (.own y)->c≠x:=λc y r z=>by subst z;rw[r]at mu;exact mu
 have ahk:∀c xs,H c=a_ (.tup xs)->c≠x:=λc xs r z=>by subst z;rw[r]at mu;exact mu
 by_cases hb:b=x
 ·subst hb;rw[ao]at q;cases q;exact new
 ·rw[ag hb]at q
  by_cases xo:b=e
  ·have q':H b=a_ (.own x):=by
    rcases he with z | z
    ·exact absurd (xo.trans z) hb
    ·rw[xo];exact z
   rw[q]at q';cases q';obtain⟨v,hv⟩:=zf;exact⟨v,by rw[xo];exact hv⟩
  ·refine(ok b u q).rZ (λc v hc r=>k c v ?_ r) (λc r=>by rw[ag (Tg c b r)];exact r) λc xs r=>by rw[ag (ahk c xs r)];exact r
   rcases hc with rfl | hc
   ·exact xo
   ·rintro rfl;rcases he with z | z
    ·exact Tg c b hc z
    ·rw[hc]at z;cases z;exact hb rfl
end
structure Un(fs ex:List e_)(H H':Hp)(h h':j_):Prop where
 keep:∀b o,h.get? b=a_ o->H b=b_->b∉fs->b∉ex->h'.get? b=a_ o
 slot:∀b o,h.get? b=a_ o->H b=b_->b∈fs->b∉ex->∃sl,h'.get? b=a_ { o with slots:=sl }
 free:∀b o,h.get? b=a_ o->H b=b_->b∉ex->H' b=b_
 there:∀b o,h.get? b=a_ o->b∉ex->∃o',h'.get? b=a_ o'
 rY:∀b xs,H b=a_ (.tup xs)->H' b=a_ (.tup xs)
 qz:∀b o u,H b=a_ (.lC o u)->H' b=a_ (.lC o u)
 qq:∀b ps,H b=a_ (.eh ps)->∃more,H' b=a_ (.eh (ps++more))
section
variable{fs lM ex ex':List e_}{H H1 H2:Hp}{h h1 h2 h':j_}{a x e:e_}{o:HO}
theorem Un.any(u:Un fs ex H H1 h h1)(q:h.get? b=a_ ob)(n:H b=b_)(hx:b∉ex):∃sl,h1.get? b=a_ { ob with slots:=sl }:=by
 by_cases hb:b∈fs
 ·exact u.slot b ob q n hb hx
 ·exact⟨ob.slots,u.keep b ob q n hb hx⟩
theorem Un.kept(k:∀b u,h.get? b=a_ u->h'.get? b=a_ u):Un fs ex H H h h':=
 ⟨λb ob q _ _ _=>k b ob q,λb ob q _ _ _=>⟨ob.slots,k b ob q⟩,λ_ _ _ n _=>n,λb ob q _=>⟨ob,k b ob q⟩,λ_ _ q=>q,λ_ _ _ q=>q,λ_ ps q=>⟨#[],by rw[q];simp⟩⟩
theorem Un.refl:Un fs ex H H h h:=Un.kept λ_ _ q=>q
theorem Un.laid(k:∀b u,h.get? b=a_ u->h'.get? b=a_ u)(hp:h.objs.size<=a)(hn:H a=b_):Un fs ex H (upd H a o) h h' where
 keep:=λb u q _ _ _=>k b u q
 slot:=λb u q _ _ _=>⟨u.slots,k b u q⟩
 free:=λb u q n _=>by rw[ag (cI (gq (bq q) hp))];exact n
 there:=λb u q _=>⟨u,k b u q⟩
 rY:=λb xs q=>by rw[ag (cG q hn)];exact q
 qz:=λb u xs q=>by rw[ag (cG q hn)];exact q
 qq:=λb ps q=>⟨#[],by rw[ag (cG q hn),q];simp⟩
theorem Un.write(mu:A1 (H x))(he:e=x\/H e=a_ (.own x))(k:∀b u,b≠e->h.get? b=a_ u->h'.get? b=a_ u)(zf:∃u,h'.get? e=a_ u):Un fs ex H (upd H x o) h h':=by
 have hx:∀b,H b=b_->b≠x:=λb n z=>by subst z;rw[n]at mu;exact mu
 have hb:∀b,H b=b_->b≠e:=λb n z=>by
  subst z;rcases he with r | r
  ·exact hx b n r
  ·rw[n]at r;cases r
 have hm:∀b u,H b=a_ u->¬A1 (a_ u)->b≠x:=λb u q nm z=>by subst z;rw[q]at mu;exact nm mu
 refine⟨λb u q n _ _=>k b u (hb b n) q,λb u q n _ _=>⟨u.slots,k b u (hb b n) q⟩,λb u q n _=>by rw[ag (hx b n)];exact n,λb u q _=>?_,λb xs q=>by rw[ag (hm b _ q λz=>z)];exact q,λb u xs q=>by rw[ag (hm b _ q λz=>z)];exact q,λb ps q=>⟨#[],by rw[ag (hm b _ q λz=>z),q];simp⟩⟩
 by_cases xo:b=e
 ·subst xo;exact zf
 ·exact⟨u,k b u xo q⟩
end
def Eb(h:j_)(H:Hp):List Addr:=(List.range h.objs.size).filter λa=>(H a).isSome
def qu(h:j_)(H:Hp):Heap:=W.hideAll h (Eb h H)
theorem Zx(h:j_)(H:Hp):(qu h H).objs.size=h.objs.size:=W.hideAll_size _ _
theorem aaU(e:h.get? b=a_ o)(n:H b=b_):(qu h H).get? b=a_ o:=
 W.hideAll_get _ e λhm=>by
  have q:=(List.mem_filter.mp hm).2;rw[n]at q;simp at q
theorem ach(e:(qu h H).get? b=a_ o):h.get? b=a_ o/\H b=none:=by
 have e':=W.of_hideAll (Eb h H) e;refine⟨e',?_⟩;cases q:H b with
 | none=>rfl
 | some x=>
  have hm:b∈Eb h H:=List.mem_filter.mpr ⟨List.mem_range.mpr (bq e'),by simp[q]⟩;have z:(qu h H).get? b=none:=W.hideAll_none (Eb h H) hm;rw[z]at e;cases e
structure Mod(K:u_)(mg:Str->Option f_)(base:j_):Prop where
 yQ:K.In base
 glob:base.Ns dW mg
 blt:∃mb,base.Ns pW mb/\∀x:Str,x ≠ "__name__"->mb x=q8 x
 nolimit:base.NoLimit
structure Cx where
 prog:l_
 w:k_
 K:u_
 mg:Str->Option f_
 base:j_
 A:h_
 N:List Str
 s₀:g_
 H₀:Hp
 env:Env
 outer:List Env
 stack:List Env
 ex:List e_
 fn:Str->Bool
 calm:Bool
 pn:List (e_×Obj)
 xe:f_->g_->Prop
def oU(l:List Env):List Addr:=l.filterMap (·.frame)
abbrev Cx.fs(X:Cx):List Addr:=oU X.outer
def K7(sc:i_)(x:Str):Prop:=sc.names.lookup x=a_ .local\/sc.names.lookup x=a_ .cell\/sc.names.lookup x=a_ .free
def Loc(sc:i_)(x:Str):Prop:=sc.names.lookup x=a_ .local\/sc.names.lookup x=a_ .cell
def Look(env:Env)(h:j_)(m:Str->Option f_)(x:Str)(u:f_):Prop:=
 (env.kindOf x=a_ .local/\m x=a_ u)\/((env.kindOf x=a_ .cell\/env.kindOf x=a_ .free)/\∃c,env.cells.lookup x=a_ c/\h.IsCell c (a_ u))
structure Cx.Ok(X:Cx):Prop where
 mod:Mod X.K X.mg X.base
 kind:X.env.scope.kind=.function
 glob:X.env.globals=dW
 blt:X.env.builtins=pW
 above:X.s₀.heap.objs.size<=X.env.locals
 inj:∀x y c,X.env.cells.lookup x=a_ c->X.env.cells.lookup y=a_ c->x=y
 has:∀x,(X.env.kindOf x=a_ .cell\/X.env.kindOf x=a_ .free)->∃c,X.env.cells.lookup x=a_ c
 wF:∀x c,X.fn x=c_->X.env.cells.lookup x=a_ c->X.s₀.heap.objs.size<=c
 hd:X.calm=c_->X.A.handled=b_
 frames:X.A.frames=a_ X.stack
 yH:X.stack=X.outer\/(X.stack=X.env::X.outer/\X.env.frame=a_ X.env.locals)
 uH:∀b∈X.ex,b≠X.env.locals/\∀x c,X.env.cells.lookup x=a_ c->c≠b
 bs:∀b o,X.base.get? b=a_ o->X.s₀.heap.get? b=a_ o/\X.H₀ b=b_
 mG:X.base.objs.size<=X.s₀.heap.objs.size
 v8:∀b o,X.base.get? b=a_ o->b∉X.ex
 uj:∀b∈X.ex,b∉X.fs
 lj:X.s₀.heap.FunFrames X.base X.outer
 sv:∀b∈X.fs,X.H₀ b=b_
structure Inv(X:Cx)(p_:List (e_×Obj))(σ:List (Option V))(H:Hp)(s:g_):Prop where
 ok:X.Ok
 os:s.os=X.s₀.os
 bare:AllBare s.gens
 base:Un X.fs X.ex X.H₀ H X.s₀.heap s.heap
 loc:∃m,s.heap.Ns X.env.locals m/\∀(i:Nat) (x:Str) (v:V),X.N[i]?=a_ x->σ[i]?=a_ (a_ v)->K7 X.env.scope x->∃u,RelV v u/\Look X.env s.heap m x u
 cell:∀x c,X.env.cells.lookup x=a_ c->∃v,s.heap.IsCell c v
 free:H X.env.locals=b_
 jZ:∀x c,X.env.cells.lookup x=a_ c->H c=b_
 pin:∀p∈X.pn++p_,s.heap.get? p.1=a_ p.2/\H p.1=b_/\p.1≠X.env.locals/\p.1∉X.fs/\∀v,p.2.data≠.cell v
 aD:dU X.prog X.w H s.heap
 len:σ.length=X.N.length
section
variable{X:Cx}{p_:List (e_×Obj)}{σ:List (Option V)}{H H':Hp}{s:g_}{h':j_}
theorem Cx.Ok.ag2(ok:X.Ok)(e:X.base.get? b=a_ o):b∉X.fs:=λhb=>by
 have:=(ok.lj.mem hb).1;rw[e]at this;cases this
theorem Inv.bs(I:Inv X p_ σ H s):∀b o,X.base.get? b=a_ o->s.heap.get? b=a_ o/\H b=none:=λb o e=>
 ⟨I.base.keep b o (I.ok.bs b o e).1 (I.ok.bs b o e).2 (I.ok.ag2 e) (I.ok.v8 b o e),I.base.free b o (I.ok.bs b o e).1 (I.ok.bs b o e).2 (I.ok.v8 b o e)⟩
theorem Inv.bk(I:Inv X p_ σ H s):∀b o,X.base.get? b=a_ o->s.heap.get? b=a_ o:=λb o e=>(I.bs b o e).1
theorem Inv.mod(I:Inv X p_ σ H s):Mod X.K X.mg X.base:=I.ok.mod
theorem Inv.eD(I:Inv X p_ σ H s):X.K.In s.heap:=I.ok.mod.yQ.keeps I.bk
theorem Inv.nolimit(I:Inv X p_ σ H s):s.heap.NoLimit:=I.ok.mod.nolimit.keeps I.bk
theorem Inv.fr(I:Inv X p_ σ H s):∃m,Fr X.base X.env.locals s.heap m:=
 let ⟨m,hn,_⟩:=I.loc
 ⟨m,hn,I.bk,cx I.ok.mG I.ok.above⟩
theorem Inv.lt(I:Inv X p_ σ H s):X.env.locals<s.heap.objs.size:=let ⟨_,hn,_⟩:=I.loc;hn.lt
theorem Inv.sz(I:Inv X p_ σ H s):X.s₀.heap.objs.size<=s.heap.objs.size:=cx I.ok.above (c8 I.lt)
theorem Inv.SD(I:Inv X p_ σ H s)(h:s.heap.objs.size<=a):a∉X.fs:=λhb=>by
 obtain⟨_,o,ho,_⟩:=I.ok.lj.mem hb;exact absurd (gq (bq ho) (cx I.sz h)) (nu _)
theorem Inv.wD(I:Inv X p_ σ H s):∀x c,X.env.cells.lookup x=a_ c->c≠X.env.locals:=λx c e z=>by
 obtain⟨v,o,ho,hd⟩:=I.cell x c e;obtain⟨m,⟨o',es,ep,pF,xk,_⟩,_⟩:=I.loc;rw[z,pF]at ho;cases ho;rw[xk]at hd;cases hd
theorem Inv.lj(I:Inv X p_ σ H s):s.heap.FunFrames X.base X.outer:=by
 have all:∀(l:List Env),(∀b∈oU l,b∈X.fs)->X.s₀.heap.FunFrames X.base l->s.heap.FunFrames X.base l:=by
  intro l
  induction l with
  | nil=>intro _ _;trivial
  | cons env r ih=>
   intro hs hl;obtain⟨hk,⟨L,o,hf,hn,ho,hd⟩,hr⟩:=hl;have hL:=hs L (by unfold oU;rw[List.filterMap_cons,hf];exact List.mem_cons_self);obtain⟨sl,e⟩:=I.base.slot L o ho (I.ok.sv L hL) hL λz=>I.ok.uj L z hL;exact⟨hk,⟨L,_,hf,hn,e,hd⟩,ih (λb hb=>hs b (by unfold oU;rw[List.filterMap_cons,hf];exact List.mem_cons_of_mem _ hb)) hr⟩
 exact all X.outer (λ_ hb=>hb) I.ok.lj
theorem Inv.stack(I:Inv X p_ σ H s):s.heap.FunFrames X.base X.stack:=by
 rcases I.ok.yH with e | ⟨e,hf⟩
 ·rw[e];exact I.lj
 ·rw[e];obtain⟨m,hn,_⟩:=I.loc;refine .cons (by rw[I.ok.kind];decide) hf hn ?_ I.lj;exact Heap.get?_none_of_le (cx I.ok.mG I.ok.above)
theorem Inv.IC(I:Inv X p_ σ H s):∀b∈oU X.stack,b∈X.env.locals::X.fs:=λb hb=>by
 rcases I.ok.yH with e | ⟨e,hf⟩
 ·rw[e]at hb;exact List.mem_cons_of_mem _ hb
 ·rw[e]at hb;unfold oU at hb;rw[List.filterMap_cons,hf]at hb;exact hb
theorem Inv.HM(I:Inv X p_ σ H s):∀b∈oU X.stack,H b=none:=λb hb=>by
 rcases List.mem_cons.mp (I.IC b hb)with e | hb
 ·rw[e];exact I.free
 ·obtain⟨_,o,ho,_⟩:=I.ok.lj.mem hb;exact I.base.free b o ho (I.ok.sv b hb) λz=>I.ok.uj b z hb
theorem Inv.step{g':Array GenState}{t':Nat}{d':Drawn}{ch:List e_}(I:Inv X p_ σ H s)
  (qS:∀b∈ch,(b∈X.ex\/X.s₀.heap.objs.size<=b)/\b≠X.env.locals/\(∀x c,X.env.cells.lookup x=a_ c->c≠b)/\∀p∈X.pn++p_,p.1≠b)
  (keep:∀b o,b≠X.env.locals->b∉X.fs->b∉ch->s.heap.get? b=a_ o->H b=b_->h'.get? b=a_ o)
  (slot:∀b o,b≠X.env.locals->b∈X.fs->b∉ch->s.heap.get? b=a_ o->H b=b_->∃sl,h'.get? b=a_ { o with slots:=sl }) (free:∀b o,b∉ch->s.heap.get? b=a_ o->H b=b_->H' b=b_)
  (there:∀b o,b∉ch->s.heap.get? b=a_ o->∃o',h'.get? b=a_ o')
  (rY:∀b xs,H b=a_ (.tup xs)->H' b=a_ (.tup xs)) (qz:∀b o u,H b=a_ (.lC o u)->H' b=a_ (.lC o u)) (qq:∀b ps,H b=a_ (.eh ps)->∃more,H' b=a_ (.eh (ps++more)))
  (ns:∀m,s.heap.Ns X.env.locals m->h'.Ns X.env.locals m) (aD:dU X.prog X.w H' h') (hg:AllBare g') :
  Inv X p_ σ H' { s with heap:=h',gens:=g',drawn:=d',toks:=t' }:=by
 have U7:∀b o,X.s₀.heap.get? b=a_ o->b≠X.env.locals:=λb o e=>cI (gq (bq e) I.ok.above)
 have EH:∀b o,X.s₀.heap.get? b=a_ o->b∉X.ex->b∉ch:=λb o e hx hb=>by
  rcases(qS b hb).1 with z | z
  ·exact hx z
  ·exact absurd (gq (bq e) z) (nu _)
 have cellK:∀x c,X.env.cells.lookup x=a_ c->∀v,s.heap.IsCell c v->h'.IsCell c v:=λx c e v ⟨o,ho,hd⟩=>by
  have uM:c∉ch:=λz=>(qS c z).2.2.1 x c e rfl
  by_cases hc:c∈X.fs
  ·obtain⟨sl,q⟩:=slot c o (I.wD x c e) hc uM ho (I.jZ x c e);exact⟨_,q,hd⟩
  ·exact⟨o,keep c o (I.wD x c e) hc uM ho (I.jZ x c e),hd⟩
 refine⟨I.ok,I.os,hg,⟨λb o e n hb hx=>keep b o (U7 b o e) hb (EH b o e hx) (I.base.keep b o e n hb hx) (I.base.free b o e n hx),λb o e n hb hx=>?_,λb o e n hx=>?_,λb o e hx=>?_,λb xs e=>rY b xs (I.base.rY b xs e),λb o xs e=>qz b o xs (I.base.qz b o xs e),λb ps e=>?_⟩,?_,λx c e=>?_,?_,λx c e=>?_,λp hp=>?_,aD,I.len⟩
 ·obtain⟨sl,e1⟩:=I.base.slot b o e n hb hx;obtain⟨sl',e2⟩:=slot b _ (U7 b o e) hb (EH b o e hx) e1 (I.base.free b o e n hx);exact⟨sl',e2⟩
 ·obtain⟨o',e1⟩:=I.base.there b o e hx;exact free b o' (EH b o e hx) e1 (I.base.free b o e n hx)
 ·obtain⟨o',e1⟩:=I.base.there b o e hx;exact there b o' (EH b o e hx) e1
 ·obtain⟨m1,e1⟩:=I.base.qq b ps e;obtain⟨m2,e2⟩:=qq b _ e1;exact⟨m1++m2,by rw[e2,Array.append_assoc]⟩
 ·obtain⟨m,hn,hl⟩:=I.loc;refine⟨m,ns m hn,λi x v e1 e2 e3=>?_⟩;obtain⟨u,r,l⟩:=hl i x v e1 e2 e3;refine⟨u,r,?_⟩;rcases l with l | ⟨k,c,e,z⟩
  ·exact .inl l
  ·exact .inr ⟨k,c,e,cellK x c e _ z⟩
 ·obtain⟨v,z⟩:=I.cell x c e;exact⟨v,cellK x c e v z⟩
 ·obtain⟨m,⟨o,_,_,ho,_⟩,_⟩:=I.loc;exact free _ o (λz=>(qS _ z).2.1 rfl) ho I.free
 ·obtain⟨v,o,ho,hd⟩:=I.cell x c e;exact free c o (λz=>(qS c z).2.2.1 x c e rfl) ho (I.jZ x c e)
 ·obtain⟨e,n,ne,nf,d⟩:=I.pin p hp;have uM:p.1∉ch:=λz=>(qS p.1 z).2.2.2 p hp rfl;exact⟨keep p.1 p.2 ne nf uM e n,free p.1 p.2 uM e n,ne,nf,d⟩
theorem Inv.un{t':Nat}(I:Inv X p_ σ H s)(u:Un X.fs [] H H' s.heap h')(aD:dU X.prog X.w H' h'):Inv X p_ σ H' { s with heap:=h',toks:=t' }:=by
 obtain⟨m,⟨o,es,ep,ho,r⟩,_⟩:=id I.loc;obtain⟨sl,hL⟩:=u.any ho I.free (by simp)
 exact I.step (g':=s.gens) (d':=s.drawn) (ch:=[]) (λ_ z=>nomatch z) (λb o _ hb _ e n=>u.keep b o e n hb (by simp)) (λb o _ hb _ e n=>u.slot b o e n hb (by simp)) (λb o _ e n=>u.free b o e n (by simp)) (λb o _ e=>u.there b o e (by simp)) u.rY u.qz u.qq (λm' hm=>by
  obtain⟨o',jR,Fg,pF,r'⟩:=hm;rw[ho]at pF;cases pF;exact⟨_,jR,Fg,hL,r'⟩) aD I.bare
theorem Inv.call{g':Array GenState}{t':Nat}{d':Drawn}{ch:List e_}(I:Inv X p_ σ H s)(u:Un (oU X.stack) ch H H' s.heap h')(aD:dU X.prog X.w H' h')(hg:AllBare g')
  (qS:∀b∈ch,(b∈X.ex\/X.s₀.heap.objs.size<=b)/\b≠X.env.locals/\(∀x c,X.env.cells.lookup x=a_ c->c≠b)/\∀p∈X.pn++p_,p.1≠b) :
  Inv X p_ σ H' { s with heap:=h',gens:=g',drawn:=d',toks:=t' }:=by
 obtain⟨m,⟨o,es,ep,ho,r⟩,_⟩:=id I.loc;obtain⟨sl,hL⟩:=u.any ho I.free λz=>(qS _ z).2.1 rfl
 exact I.step (ch:=ch) qS (λb o hL hb hc e n=>u.keep b o e n (λz=>(List.mem_cons.mp (I.IC b z)).elim hL hb) hc) (λb o _ _ hc e n=>u.any e n hc) (λb o hc e n=>u.free b o e n hc) (λb o hc e=>u.there b o e hc) u.rY u.qz u.qq (λm' hm=>by
  obtain⟨o',jR,Fg,pF,r'⟩:=hm;rw[ho]at pF;cases pF;exact⟨_,jR,Fg,hL,r'⟩) aD hg
theorem Inv.turned{t':Nat}{it:e_}(I:Inv X p_ σ H s)(k:∀b o,b≠it->s.heap.get? b=a_ o->h'.get? b=a_ o)(hn:H it=b_)(hL:it≠X.env.locals)
  (h1:it∈X.ex\/X.s₀.heap.objs.size<=it) (h2:∀x c,X.env.cells.lookup x=a_ c->c≠it) (h3:∀p∈X.pn++p_,p.1≠it):Inv X p_ σ H { s with heap:=h',toks:=t' }:=by
 have U6:∀b u,H b=a_ u->b≠it:=λb u e z=>by rw[z,hn]at e;cases e
 refine I.step (g':=s.gens) (d':=s.drawn) (ch:=[it]) (λb hb=>?_) (λb o _ _ hc e _=>k b o (λz=>hc (by simp[z])) e) (λb o _ _ hc e _=>⟨o.slots,k b o (λz=>hc (by simp[z])) e⟩) (λ_ _ _ _ n=>n)
  (λb o hc e=>⟨o,k b o (λz=>hc (by simp[z])) e⟩) (λ_ _ e=>e) (λ_ _ _ e=>e) (λb ps e=>⟨#[],by rw[e];simp⟩) (λm hm=>?_) (λb u e=>?_) I.bare
 ·have e:b=it:=by simpa using hb
  subst e;exact⟨h1,hL,h2,h3⟩
 ·obtain⟨o,es,ep,ho,r⟩:=hm;exact⟨o,es,ep,k _ o (cB hL) ho,r⟩
 ·refine(I.aD b u e).rZ (λc v hc q=>k c v ?_ q) (λ_ q=>q) λ_ _ q=>q;rcases hc with z | z
  ·rw[z];exact U6 b u e
  ·exact U6 c _ z
theorem Inv.tok(I:Inv X p_ σ H s)(t:Nat):Inv X p_ σ H { s with toks:=t }:=I.un (h':=s.heap) (t':=t) Un.refl I.aD
theorem Inv.kept{t':Nat}(I:Inv X p_ σ H s)(k:∀b u,s.heap.get? b=a_ u->h'.get? b=a_ u):Inv X p_ σ H { s with heap:=h',toks:=t' }:=I.un (Un.kept k) (I.aD.kept k)
theorem Inv.laid{o:HO}{t':Nat}(I:Inv X p_ σ H s)(k:∀b u,s.heap.get? b=a_ u->h'.get? b=a_ u)(hp:s.heap.objs.size<=a)(new:de X.prog X.w (upd H a o) h' a o) :
  Inv X p_ σ (upd H a o) { s with heap:=h',toks:=t' }:=I.un (Un.laid k hp (I.aD.fresh hp)) (I.aD.laid k hp new)
theorem Inv.write{o:HO}{t':Nat}(I:Inv X p_ σ H s)(mu:A1 (H x))(he:e=x\/H e=a_ (.own x))(k:∀b u,b≠e->s.heap.get? b=a_ u->h'.get? b=a_ u)(zf:∃u,h'.get? e=a_ u)
  (new:de X.prog X.w (upd H x o) h' x o):Inv X p_ σ (upd H x o) { s with heap:=h',toks:=t' }:=I.un (Un.write mu he k zf) (I.aD.write mu he k zf new)
theorem Inv.weak{σ':List (Option V)}(I:Inv X p_ σ H s)(hl:σ'.length=σ.length)(w:∀(i:Nat) v,σ'[i]?=a_ (a_ v)->σ[i]?=a_ (a_ v)):Inv X p_ σ' H s:=
 ⟨I.ok,I.os,I.bare,I.base,let ⟨m,hn,Bq⟩:=I.loc;⟨m,hn,λi x v e1 e2 e3=>Bq i x v e1 (w i v e2) e3⟩,I.cell,I.free,I.jZ,I.pin,I.aD,hl.trans I.len⟩
theorem Inv.tK(I:Inv X p_ σ H s)(h:∀p∈agl,s.heap.get? p.1=a_ p.2/\H p.1=b_/\p.1≠X.env.locals/\p.1∉X.fs/\∀v,p.2.data≠.cell v):Inv X agl σ H s:=
 ⟨I.ok,I.os,I.bare,I.base,I.loc,I.cell,I.free,I.jZ,λp hp=>(List.mem_append.mp hp).elim (λz=>I.pin p (List.mem_append_left _ z)) (h p),I.aD,I.len⟩
theorem Pd{N:List Str}(hN:N.Nodup){i j:Nat}{x:Str}(a:N[i]?=a_ x)(b:N[j]?=a_ x):i=j:=by
 obtain⟨h1,e1⟩:=List.getElem?_eq_some_iff.mp a;obtain⟨h2,e2⟩:=List.getElem?_eq_some_iff.mp b;exact(List.getElem_inj hN).mp (e1.trans e2.symm)
theorem Od{M:Model}{A:h_}{E:f_->g_->Prop}{i:Nat}{x:Str}{v:V}{u:f_}{Q:Unit->g_->Prop}(I:Inv X p_ σ H s)(hN:X.N.Nodup)(hi:X.N[i]?=a_ x)(hx:Loc X.env.scope x)(r:RelV v u)
  (h:∀s',Inv X p_ (σ.set i (a_ v)) H s'->(∃a,kG a s.heap s'.heap/\(a=X.env.locals\/X.env.cells.lookup x=a_ a))->Q () s') (hf:X.fn x=c_\/X.env.scope.names.lookup x=a_ .local:=by first | exact .inl rfl | exact .inr rfl | assumption):wpAny M A (storeName X.env x u) Q E s:=by
 obtain⟨m,hn,hl⟩:=id I.loc;have ah1:(X.env.scope.kind == .class||(X.env.scope.kind == .module&&X.env.locals != X.env.globals))=false:=by rw[I.ok.kind];rfl
 have VR:i < σ.length:=by rw[I.len];exact(List.getElem?_eq_some_iff.mp hi).1
 have wD:=I.wD
 have tracked:∀{a:e_} {h':j_},(∃o,s.heap.get? a=a_ o/\H a=b_)->kG a s.heap h'->dU X.prog X.w H h':=λ{a h'} ha hs b ob e=>by
  obtain⟨_,_,Si⟩:=ha;refine(I.aD b ob e).rZ (λc w' hc q=>(hs.2 c ?_).trans q) (λ_ q=>q) λ_ _ q=>q;rintro rfl;rcases hc with rfl | hc
  ·rw[Si]at e;cases e
  ·rw[Si]at hc;cases hc
 rcases hx with hk | hk
 ·refine wpAny_storeName_local hk hn (λh' Bm hs=>?_) ah1;obtain⟨oL,_,_,hoL,_⟩:=id hn;refine h _ ⟨I.ok,I.os,I.bare,⟨λb o e n hb hx=>(hs.2 b (cI (gq (bq e) I.ok.above))).trans (I.base.keep b o e n hb hx),λb o e n hb hx=>?_,I.base.free,λb o e hx=>?_,I.base.rY,I.base.qz,I.base.qq⟩,⟨_,Bm,λj y v' e1 e2 e3=>?_⟩,λy c e=>?_,I.free,I.jZ,λp hp=>?_,tracked ⟨oL,hoL,I.free⟩ hs,by simpa using I.len⟩ ⟨_,hs,.inl rfl⟩
  ·obtain⟨sl,e1⟩:=I.base.slot b o e n hb hx;exact⟨sl,(hs.2 b (cI (gq (bq e) I.ok.above))).trans e1⟩
  ·obtain⟨o',e1⟩:=I.base.there b o e hx;exact⟨o',(hs.2 b (cI (gq (bq e) I.ok.above))).trans e1⟩
  ·by_cases hj:j=i
   ·subst hj;rw[hi]at e1;cases e1;rw[List.getElem?_set_self VR]at e2;cases e2;exact⟨u,r,.inl ⟨hk,by simp⟩⟩
   ·rw[List.getElem?_set_ne (cB hj)]at e2;obtain⟨u',r',q⟩:=hl j y v' e1 e2 e3;refine⟨u',r',?_⟩;rcases q with ⟨k,e⟩ | ⟨k,c,e,z⟩
    ·refine .inl ⟨k,?_⟩;have:y≠x:=λe=>hj (Pd hN e1 (e ▸ hi));simp[this,e]
    ·exact .inr ⟨k,c,e,z.sameBut hs (wD y c e)⟩
  ·obtain⟨w',z⟩:=I.cell y c e;exact⟨w',z.sameBut hs (wD y c e)⟩
  ·obtain⟨e,n,ne,nf,d⟩:=I.pin p hp;exact⟨(hs.2 p.1 ne).trans e,n,ne,nf,d⟩
 ·have L1:X.fn x=true:=by
   rcases hf with z | z
   ·exact z
   ·rw[z]at hk;cases hk
  obtain⟨c,hc⟩:=I.ok.has x (.inl hk);obtain⟨w',z⟩:=I.cell x c hc;refine wpAny_storeName_cell I.ok.kind hk hc z λh' iT hs=>?_;obtain⟨oc,xg,ahJ⟩:=id z;refine h { s with heap:=h' } ⟨I.ok,I.os,I.bare,⟨λb o e n hb hx=>(hs.2 b (cI (gq (bq e) (I.ok.wF x c L1 hc)))).trans (I.base.keep b o e n hb hx),λb o e n hb hx=>?_,I.base.free,λb o e hx=>?_,I.base.rY,I.base.qz,I.base.qq⟩,⟨m,hn.sameBut hs (cB (wD x c hc)),λj y v' e1 e2 e3=>?_⟩,λy c' e=>?_,I.free,I.jZ,λp hp=>?_,tracked ⟨oc,xg,I.jZ x c hc⟩ hs,by simpa using I.len⟩ ⟨c,hs,.inr hc⟩
  ·obtain⟨sl,e1⟩:=I.base.slot b o e n hb hx;exact⟨sl,(hs.2 b (cI (gq (bq e) (I.ok.wF x c L1 hc)))).trans e1⟩
  ·obtain⟨o',e1⟩:=I.base.there b o e hx;exact⟨o',(hs.2 b (cI (gq (bq e) (I.ok.wF x c L1 hc)))).trans e1⟩
  ·by_cases hj:j=i
   ·subst hj;rw[hi]at e1;cases e1;rw[List.getElem?_set_self VR]at e2;cases e2;exact⟨u,r,.inr ⟨.inl hk,c,hc,iT⟩⟩
   ·rw[List.getElem?_set_ne (cB hj)]at e2;obtain⟨u',r',q⟩:=hl j y v' e1 e2 e3;refine⟨u',r',?_⟩;rcases q with q | ⟨k,c',e,z'⟩
    ·exact .inl q
    ·refine .inr ⟨k,c',e,z'.sameBut hs ?_⟩;rintro rfl;exact hj (Pd hN e1 (I.ok.inj _ _ _ e hc ▸ hi))
  ·by_cases VZ:c'=c
   ·subst VZ;exact⟨_,iT⟩
   ·obtain⟨w2,z2⟩:=I.cell y c' e;exact⟨w2,z2.sameBut hs VZ⟩
  ·obtain⟨e,n,ne,nf,d⟩:=I.pin p hp;refine⟨(hs.2 p.1 ?_).trans e,n,ne,nf,d⟩;intro q;rw[q,xg]at e;have q':=cu e;exact d w' (by rw[<-q'];exact ahJ)
theorem OR{M:Model}{i:Nat}{Q:Unit->g_->Prop}(I:Inv X p_ σ H s)(hN:X.N.Nodup)(hi:X.N[i]?=a_ x)(hx:Loc X.env.scope x)(r:RelV v u)
  (h:∀s',Inv X p_ (σ.set i (a_ v)) H s'->Q () s') (hf:X.fn x=c_\/X.env.scope.names.lookup x=a_ .local:=by first | exact .inl rfl | exact .inr rfl | assumption):wpAny M A (storeName X.env x u) Q E s:=
 Od I hN hi hx r (λs' I' _=>h s' I') hf
theorem Inv.Sa(I:Inv X p_ σ H s)(ho:s'.os=s.os)(u:Un (oU X.stack) ch H H' s.heap s'.heap)(aD:dU X.prog X.w H' s'.heap)(hg:AllBare s'.gens)
  (qS:∀b∈ch,(b∈X.ex\/X.s₀.heap.objs.size<=b)/\b≠X.env.locals/\(∀x c,X.env.cells.lookup x=a_ c->c≠b)/\∀p∈X.pn++p_,p.1≠b):Inv X p_ σ H' s':=by
 obtain⟨h',g',d',t',o'⟩:=s';have e:o'=s.os:=ho;subst e;exact I.call (g':=g') (t':=t') (d':=d') u aD hg qS
end
abbrev XK:=f_->Option e_->Hp->Prop
abbrev St:=List (Option V)
abbrev VK:=V->Hp->Prop
abbrev TE:=St->Hp->VK->Prop
abbrev TT:=St->Hp->(Bool->Hp->Prop)->Prop
abbrev TA:=St->Hp->(List V->Hp->Prop)->Prop
structure Ends where
 nx:St->Hp->Prop
 rt:VK
 bk:St->Hp->Prop:=λ_ _=>False
 ct:St->Hp->Prop:=λ_ _=>False
abbrev TS:=Ends->St->Hp->Prop
def EP(X:Cx)(p_:List (e_×Obj))(σ:St)(Q:VK)(u:f_)(s':g_):Prop:=∃v H',Inv X p_ σ H' s'/\RelV v u/\Q v H'
def TP(X:Cx)(p_:List (e_×Obj))(σ:St)(Q:Bool->Hp->Prop)(b:Bool)(s':g_):Prop:=∃H',Inv X p_ σ H' s'/\Q b H'
def AP(X:Cx)(p_:List (e_×Obj))(σ:St)(Q:List V->Hp->Prop)(us:List f_)(s':g_):Prop:=∃vs H',Inv X p_ σ H' s'/\Vals vs us/\Q vs H'
def SP(X:Cx)(p_:List (e_×Obj))(D:Ends)(f:Flow)(s':g_):Prop:=
 match f with
 | .next=>∃σ' H',Inv X p_ σ' H' s'/\D.nx σ' H'
 | .brk=>∃σ' H',Inv X p_ σ' H' s'/\D.bk σ' H'
 | .cont=>∃σ' H',Inv X p_ σ' H' s'/\D.ct σ' H'
 | .ret u=>∃v σ' H',Inv X p_ σ' H' s'/\RelV v u/\D.rt v H'
def PE(X:Cx)(e:Expr)(t:TE):Prop:=
 ∀(p_:List (e_×Obj)) (s:g_) (σ:St) (H:Hp) (Q:VK),Inv X p_ σ H s->t σ H Q->wpAny (model X.prog X.w) X.A (eval e X.env) (EP X p_ σ Q) X.xe s
def PT(X:Cx)(e:Expr)(t:TT):Prop:=
 ∀(p_:List (e_×Obj)) (s:g_) (σ:St) (H:Hp) (Q:Bool->Hp->Prop),Inv X p_ σ H s->t σ H Q->wpAny (model X.prog X.w) X.A (isTrue e X.env (eval e X.env)) (TP X p_ σ Q) X.xe s
def PW(X:Cx)(e:Expr)(t:TT):Prop:=
 ∀(whole:Sem f_) (p_:List (e_×Obj)) (s:g_) (σ:St) (H:Hp) (Q:Bool->Hp->Prop),Inv X p_ σ H s->t σ H Q->wpAny (model X.prog X.w) X.A (isTrue e X.env whole) (TP X p_ σ Q) X.xe s
theorem PW.pt{X:Cx}{t:TT}(h:PW X e t):PT X e t:=h _
def PA(X:Cx)(es:List Expr)(t:TA):Prop:=
 ∀(pos:Pos) (p_:List (e_×Obj)) (s:g_) (σ:St) (H:Hp) (Q:List V->Hp->Prop),Inv X p_ σ H s->t σ H Q->wpAny (model X.prog X.w) X.A (spliced (backTo pos (cA es X.env))) (AP X p_ σ Q) X.xe s
def PS(X:Cx)(st:Stmt)(t:TS):Prop:=
 ∀(p_:List (e_×Obj)) (s:g_) (σ:St) (H:Hp) (D:Ends),Inv X p_ σ H s->t D σ H->wpAny (model X.prog X.w) X.A (exec st X.env) (SP X p_ D) X.xe s
def fg(X:Cx)(st:List Stmt)(t:TS):Prop:=
 ∀(p_:List (e_×Obj)) (s:g_) (σ:St) (H:Hp) (D:Ends),Inv X p_ σ H s->t D σ H->wpAny (model X.prog X.w) X.A (execs st X.env) (SP X p_ D) X.xe s
theorem aI{α:Type}{t:Sem α}{Q Q':α->g_->Prop}{M:Model}(h:wpAny M A t Q E s)(hQ:∀a s,Q a s->Q' a s):wpAny M A t Q' E s:=gG h hQ λ_ _ x=>x
theorem TX{X:Cx}{K:VK}{t:Sem f_}{M:Model}(h:wpAny M A t (EP X p_ σ K) E s)(k:∀v s x H,Inv X p_ σ H s->RelV x v->K x H->Q' v s):wpAny M A t Q' E s:=aI h λv s z=>dC z (k v s)
theorem thT{X:Cx}{K:Bool->Hp->Prop}{t:Sem Bool}{Q':Bool->g_->Prop}{M:Model}(h:wpAny M A t (TP X p_ σ K) E s)(k:∀v s H,Inv X p_ σ H s->K v H->Q' v s):wpAny M A t Q' E s:=aI h λv s z=>ai z (k v s)
theorem AV{X:Cx}{K:List V->Hp->Prop}{t:Sem (List f_)}{Q':List f_->g_->Prop}{M:Model}(h:wpAny M A t (AP X p_ σ K) E s)(k:∀v s x H,Inv X p_ σ H s->Vals x v->K x H->Q' v s):wpAny M A t Q' E s:=aI h λv s z=>dC z (k v s)
section
variable{X:Cx}
def qt(i:Nat):TE:=λσ H Q=>∃v,σ[i]?=a_ (a_ v)/\Q v H
abbrev tC(v:V):TE:=λ_ H Q=>Q v H
theorem adh{i:Nat}(hN:X.N[i]?=a_ x)(hv:K7 X.env.scope x)(hd:(x == ("__debug__" : Str))=false:=by decide)(iD:(x == ("__classdict__" : Str))=false:=by decide):PE X (.Name x pos) (qt i):=by
 intro p_ s σ H Q I h;obtain⟨v,e,h⟩:=h;obtain⟨m,hn,hl⟩:=I.loc;obtain⟨u,r,l⟩:=hl i x v hN e hv;have fin:EP X p_ σ Q u s:=⟨v,H,I,r,h⟩;rcases l with ⟨hk,hm⟩ | ⟨hk,c,hc,rX⟩
 ·exact wpAny_Name (wpAny_loadName_local I.ok.kind hk hn hm fin) hd
 ·rcases hk with hk | hk
  ·exact wpAny_Name (wpAny_loadName_cell I.ok.kind hk hc rX fin) hd
  ·exact wpAny_Name (wpAny_loadName_free I.ok.kind hk hc rX fin iD) hd
theorem aq{i j pos}:PE X (.Constant (.int i) j pos) (tC (.int i)):=λ_ _ _ H _ I h=>wpAny_Constant_int ⟨.int i,H,I.tok _,⟨_,rfl⟩,h⟩
theorem nG{b j pos}:PE X (.Constant (.bool b) j pos) (tC (.bl b)):=λ_ _ _ H _ I h=>Constant_bool ⟨.bl b,H,I,rfl,h⟩
theorem kY{j pos}:PE X (.Constant .none j pos) (tC .aH):=λ_ _ _ H _ I h=>Constant_none ⟨.aH,H,I,rfl,h⟩
theorem cJ{x j pos}:PE X (.Constant (.str x) j pos) (tC (.str x)):=λ_ _ _ H _ I h=>Calls.Constant_str ⟨.str x,H,I.tok _,⟨_,rfl⟩,h⟩
def Gl(X:Cx)(x:Str):Prop:=X.env.kindOf x=a_ .globalImplicit
theorem CW(I:Inv X p_ σ H s)(hg:Gl X x)(hm:X.mg x=a_ u)(h:Q u s)
  (hd:(x == ("__debug__" : Str))=false:=by decide):wpAny (model X.prog X.w) X.A (eval (.Name x pos) X.env) Q E s:=
 WX I.ok.kind hg (Calls.loadGlobal_global (by rw[I.ok.glob];exact I.mod.glob.keeps I.bk) hm h) hd
theorem oH(I:Inv X p_ σ H s)(hg:Gl X x)(hm:X.mg x=b_)(hv:q8 x=a_ u)(h:Q u s)
  (hn:x ≠ "__name__":=by decide) (hd:(x == ("__debug__" : Str))=false:=by decide):wpAny (model X.prog X.w) X.A (eval (.Name x pos) X.env) Q E s:=by
 obtain⟨mb,h1,h2⟩:=I.mod.blt;exact WX I.ok.kind hg (Calls.loadGlobal_builtin (by rw[I.ok.glob];exact I.mod.glob.keeps I.bk) hm (by rw[I.ok.blt];exact h1.keeps I.bk) ((h2 x hn).trans hv) h) hd
theorem gx(hg:Gl X x)(hm:X.mg x=a_ u)(r:RelV v u)(hd:(x == ("__debug__" : Str))=false:=by decide):PE X (.Name x pos) (tC v):=
 λ_ _ _ H _ I h=>CW I hg hm ⟨v,H,I,r,h⟩ hd
theorem oB(hg:Gl X x)(hm:X.mg x=b_)(hv:q8 x=a_ u)(r:RelV v u)(hn:x ≠ "__name__":=by decide)(hd:(x == ("__debug__" : Str))=false:=by decide):PE X (.Name x pos) (tC v):=
 λ_ _ _ H _ I h=>oH I hg hm hv ⟨v,H,I,r,h⟩ hn hd
variable{a b:Expr}{ta tb:TE}{pos:Pos}
def PC(X:Cx)(op:CmpOp)(a b:Expr)(t:TE):Prop:=
 ∀(p_:List (e_×Obj)) (s:g_) (σ:St) (H:Hp) (Q:VK),Inv X p_ σ H s->t σ H Q->
  wpAny (model X.prog X.w) X.A (eval a X.env) (λv s₁=>wpAny (model X.prog X.w) X.A (eval b X.env) (λu s₂=>wpAny (model X.prog X.w) X.A (fw op v u) (EP X p_ σ Q) X.xe s₂) X.xe s₁) X.xe s
def tB(t:TE):TT:=λσ H Q=>t σ H λx H1=>∃c,x=.bl c/\Q c H1
theorem adi{op:CmpOp}{t:TE}(h:PC X op a b t)(h1:zK op b=false:=by first | exact abh _ qc qc | rfl):PE X (.Compare a [op] [b] pos) t:=λp_ s σ H Q I hw=>wpAny_Compare1 (h p_ s σ H Q I hw) h1
theorem IT{op:CmpOp}{t:TE}(h:PC X op a b t)(h1:zK op b=false:=by first | exact abh _ qc qc | rfl):PT X (.Compare a [op] [b] pos) (tB t):=by
 intro p_ s σ H Q I hw;refine Xe (aI (h p_ s σ H _ I hw) λv s1 h1=>aI h1 λu s2 h2=>aI h2 λc s3 ⟨x,H1,I1,r1,q1⟩=>?_) h1;obtain⟨d,rfl,q⟩:=q1;cases r1;exact ni ⟨H1,I1,q⟩
theorem gd{t:TE}(h:PE X e t)(he:∀whole,isTrue e X.env whole=(do let v <-whole;standAt e.pos;holding [v] (truthy v)):=by intro _;rfl):PT X e (tB t):=by
 intro p_ s σ H Q I hw;refine isTrue_plain (aI (h p_ s σ H _ I hw) λv s1 ⟨x,H1,I1,r1,q1⟩=>?_) (he _);obtain⟨d,rfl,q⟩:=q1;cases r1;exact ni ⟨H1,I1,q⟩
variable{tA Ex:TT}{rest:List Expr}
def agM(t u:TT):TT:=λσ H Q=>t σ H λc H1=>if c=c_ then u σ H1 Q else Q d_ H1
def tOr(t u:TT):TT:=λσ H Q=>t σ H λc H1=>if c=c_ then Q c_ H1 else u σ H1 Q
def agI(t:TT):TT:=λσ H Q=>t σ H λc H1=>Q (!c) H1
theorem pw_and1(ha:PT X a tA):PW X (.BoolOp .And [a] pos) tA:=by
 intro wh p_ s σ H Q I h;refine isTrue_and (aI (ha p_ s σ H Q I h) λc s1 e=>?_);cases c with
 | true=>exact isTrue_and_nil e
 | false=>exact e
theorem pw_or1(ha:PT X a tA):PW X (.BoolOp .Or [a] pos) tA:=by
 intro wh p_ s σ H Q I h;refine isTrue_or (aI (ha p_ s σ H Q I h) λc s1 e=>?_);cases c with
 | false=>exact isTrue_or_nil e
 | true=>exact e
theorem pw_and(ha:PT X a tA)(hb:PW X (.BoolOp .And (b::rest) pos) Ex):PW X (.BoolOp .And (a::b::rest) pos) (agM tA Ex):=by
 intro wh p_ s σ H Q I h;refine isTrue_and (aI (ha p_ s σ H _ I h) λc s1 ⟨H1,I1,q1⟩=>?_);cases c with
 | true=>exact hb wh p_ s1 σ H1 Q I1 q1
 | false=>exact⟨H1,I1,q1⟩
theorem pw_or(ha:PT X a tA)(hb:PW X (.BoolOp .Or (b::rest) pos) Ex):PW X (.BoolOp .Or (a::b::rest) pos) (tOr tA Ex):=by
 intro wh p_ s σ H Q I h;refine isTrue_or (aI (ha p_ s σ H _ I h) λc s1 ⟨H1,I1,q1⟩=>?_);cases c with
 | true=>exact⟨H1,I1,q1⟩
 | false=>exact hb wh p_ s1 σ H1 Q I1 q1
theorem jW(ha:PT X a tA):PT X (.UnaryOp .Not a pos) (agI tA):=by
 intro p_ s σ H Q I h;exact isTrue_not (ha p_ s σ H (λc H1=>Q (!c) H1) I h)
def aeR(ta tb:TE):TE:=λσ H Q=>ta σ H λx H1=>∃c,x=.bl c/\if c=c_ then tb σ H1 Q else Q (.bl d_) H1
def agH(ta tb:TE):TE:=λσ H Q=>ta σ H λx H1=>∃c,x=.bl c/\if c=c_ then Q (.bl c_) H1 else tb σ H1 Q
def aeJ(ta:TE):TE:=λσ H Q=>ta σ H λx H1=>∃c,x=.bl c/\Q (.bl (!c)) H1
theorem tP{op}{t:TE}(h:PE X a t):PE X (.BoolOp op [a] pos) t:=λp_ s σ H Q I hw=>BoolOp_one (h p_ s σ H Q I hw)
theorem rK(ha:PE X a ta)(hb:PE X (.BoolOp .And (b::rest) pos) tb):PE X (.BoolOp .And (a::b::rest) pos) (aeR ta tb):=by
 intro p_ s σ H Q I h;refine BoolOp_and (aI (ha p_ s σ H _ I h) λv s1 ⟨x,H1,I1,r1,q1⟩=>?_);obtain⟨c,rfl,q1⟩:=q1;cases r1;refine ni ?_;cases c with
 | true=>exact hb p_ s1 σ H1 Q I1 q1
 | false=>exact⟨.bl d_,H1,I1,rfl,q1⟩
theorem ae1(ha:PE X a ta)(hb:PE X (.BoolOp .Or (b::rest) pos) tb):PE X (.BoolOp .Or (a::b::rest) pos) (agH ta tb):=by
 intro p_ s σ H Q I h;refine BoolOp_or (aI (ha p_ s σ H _ I h) λv s1 ⟨x,H1,I1,r1,q1⟩=>?_);obtain⟨c,rfl,q1⟩:=q1;cases r1;refine ni ?_;cases c with
 | false=>exact hb p_ s1 σ H1 Q I1 q1
 | true=>exact⟨.bl c_,H1,I1,rfl,q1⟩
theorem QW(ha:PE X a ta):PE X (.UnaryOp .Not a pos) (aeJ ta):=by
 intro p_ s σ H Q I h;refine UnaryOp_ (aI (ha p_ s σ H _ I h) λv s1 ⟨x,H1,I1,r1,q1⟩=>?_);obtain⟨c,rfl,q1⟩:=q1;cases r1;exact not_of (ni ⟨.bl (!c),H1,I1,rfl,q1⟩)
def tIf(t:TT)(ta tb:TE):TE:=λσ H Q=>t σ H λc H1=>if c=c_ then ta σ H1 Q else tb σ H1 Q
theorem Hs(hc:PT X c tA)(ha:PE X a ta)(hb:PE X b tb):PE X (.IfExp c a b pos) (tIf tA ta tb):=by
 intro p_ s σ H Q I h;refine wpAny_IfExp (aI (hc p_ s σ H _ I h) λd s1 ⟨H1,I1,q1⟩=>?_);cases d with
 | true=>exact ha p_ s1 σ H1 Q I1 q1
 | false=>exact hb p_ s1 σ H1 Q I1 q1
end
def ae(K:u_)(H:Hp)(a:e_)(xs:List V):Prop:=
 Rd H a (.lst xs)\/
  ∃(o:Obj) (its:Array f_) (n:Nat),K.lookup a=a_ o/\o.cls=.type "list"/\o.dict=b_/\o.data=.seq its n/\its.size<=a9/\Vals xs its.toList
def aB(K:u_)(H:Hp)(a:e_)(xs:List V):Prop:=
 Rd H a (.tup xs)\/
  ∃(o:Obj) (its:Array f_) (n:Nat),K.lookup a=a_ o/\o.cls=.type "tuple"/\o.data=.seq its n/\its.size<=a9/\Vals xs its.toList
def ahe:f_->Option V
 | .none=>a_ .aH
 | .bool b=>a_ (.bl b)
 | .int i _=>a_ (.int i)
 | .str x _=>a_ (.str x)
 | .bytes b _=>a_ (.nS b)
 | .float b _=>a_ (.sA b)
 | .ref a=>a_ (.ref a)
 | .type n=>a_ (.ty n)
 | _=>b_
theorem RelV.abs(r:RelV x u):ahe u=a_ x:=by
 cases x with
 | aH=>cases r;rfl
 | bl _=>cases r;rfl
 | int _=>obtain⟨t,rfl⟩:=r;rfl
 | str _=>obtain⟨t,rfl⟩:=r;rfl
 | nS _=>obtain⟨t,rfl⟩:=r;rfl
 | sA _=>obtain⟨t,rfl⟩:=r;rfl
 | ref _=>cases r;rfl
 | ty _=>cases r;rfl
theorem RelV.inj(r:RelV x u)(q:RelV y u):x=y:=cu (r.abs.symm.trans q.abs)
theorem Vals.inj:∀{xs ys:List V} {us:List f_},Vals xs us->Vals ys us->xs=ys
 | _,_,_,.nil,.nil=>rfl
 | _,_,_,.cons r t,.cons r' t'=>by rw[r.inj r',Vals.inj t t']
section
variable{X:Cx}{p_:List (e_×Obj)}{σ:St}{H:Hp}{s:g_}{a:e_}{xs ys:List V}
theorem ae.of{K:u_}(h:H a=a_ (.lst xs)):ae K H a xs:=.inl (.inl h)
theorem aB.of{K:u_}(h:H a=a_ (.tup xs)):aB K H a xs:=.inl (.inl h)
theorem Inv.list(I:Inv X p_ σ H s)(h:ae X.K H a xs):∃its:List f_,Vals xs its/\PlainL s.heap a its.toArray/\xs.length<=a9:=by
 rcases h with h | ⟨o,its,n,hk,hc,hd,hs,hz,r⟩
 ·obtain⟨z,its,n,r,e⟩:=h.ok I.aD;exact⟨its,r,⟨_,n,e,rfl,rfl,rfl⟩,z⟩
 ·refine⟨its.toList,r,⟨o,n,I.eD a o hk,hc,hd,by simpa using hs⟩,?_⟩;have e:=r.length;simp only[dj]at e;omega
theorem Inv.tuple(I:Inv X p_ σ H s)(h:aB X.K H a xs):∃its:List f_,Vals xs its/\IsTup s.heap a its.toArray/\xs.length<=a9:=by
 rcases h with h | ⟨o,its,n,hk,hc,hs,hz,r⟩
 ·obtain⟨z,its,r,p⟩:=h.ok I.aD;exact⟨its,r,p,z⟩
 ·refine⟨its.toList,r,⟨o,I.eD a o hk,hc,n,by simpa using hs⟩,?_⟩;have e:=r.length;simp only[dj]at e;omega
theorem Inv.Ph(I:Inv X p_ σ H s)(h:ae X.K H a xs)(h':ae X.K H a ys):xs=ys:=by
 obtain⟨its,r,⟨o,n,e,_,_,d⟩,_⟩:=I.list h;obtain⟨jH,r',⟨o',n',e',_,_,d'⟩,_⟩:=I.list h';rw[e]at e';cases e';rw[d]at d';injection d' with d1 _
 have:its=jH:=by simpa using congrArg Array.toList d1
 subst this;exact r.inj r'
theorem Inv.Oc(I:Inv X p_ σ H s)(h:aB X.K H a xs)(h':aB X.K H a ys):xs=ys:=by
 obtain⟨its,r,⟨o,e,_,n,d⟩,_⟩:=I.tuple h;obtain⟨jH,r',⟨o',e',_,n',d'⟩,_⟩:=I.tuple h';rw[e]at e';cases e';rw[d]at d';injection d' with d1 _
 have:its=jH:=by simpa using congrArg Array.toList d1
 subst this;exact r.inj r'
end
abbrev Cx.qp(X:Cx)(E:f_->g_->Prop):Cx:={ X with xe:=E }
abbrev Cx.uE(X:Cx):Cx:=X.qp λ_ _=>False
theorem Cx.Ok.qp{X:Cx}(ok:X.Ok)(E:f_->g_->Prop):(X.qp E).Ok:=
 ⟨ok.mod,ok.kind,ok.glob,ok.blt,ok.above,ok.inj,ok.has,ok.wF,ok.hd,ok.frames,ok.yH,ok.uH,ok.bs,ok.mG,ok.v8,ok.uj,ok.lj,ok.sv⟩
theorem Cx.Ok.tM{X:Cx}(ok:(X.qp E).Ok):X.Ok:=
 ⟨ok.mod,ok.kind,ok.glob,ok.blt,ok.above,ok.inj,ok.has,ok.wF,ok.hd,ok.frames,ok.yH,ok.uH,ok.bs,ok.mG,ok.v8,ok.uj,ok.lj,ok.sv⟩
section
variable{X:Cx}{p_:List (e_×Obj)}{σ:St}{H:Hp}{s:g_}{E:f_->g_->Prop}
theorem Inv.qp(I:Inv X p_ σ H s)(E:f_->g_->Prop):Inv (X.qp E) p_ σ H s:=⟨I.ok.qp E,I.os,I.bare,I.base,I.loc,I.cell,I.free,I.jZ,I.pin,I.aD,I.len⟩
theorem Inv.tM(I:Inv (X.qp E) p_ σ H s):Inv X p_ σ H s:=⟨I.ok.tM,I.os,I.bare,I.base,I.loc,I.cell,I.free,I.jZ,I.pin,I.aD,I.len⟩
theorem SP.tM{f:Flow}(h:SP (X.qp E) p_ D f s'):SP X p_ D f s':=by
 cases f with
 | next=>obtain⟨σ',H',I,q⟩:=h;exact⟨σ',H',I.tM,q⟩
 | brk=>obtain⟨σ',H',I,q⟩:=h;exact⟨σ',H',I.tM,q⟩
 | cont=>obtain⟨σ',H',I,q⟩:=h;exact⟨σ',H',I.tM,q⟩
 | ret u=>obtain⟨v,σ',H',I,r,q⟩:=h;exact⟨v,σ',H',I.tM,r,q⟩
theorem fg.uE{st:List Stmt}{t:TS}(h:fg X.uE st t):fg X st t:=λp_ s σ H D I hw=>
 gG (h p_ s σ H D (I.qp _) hw) (λ_ _ q=>q.tM) λ_ _ z=>lU z
end
section
variable{X:Cx}{st:Stmt}{rest:List Stmt}{t u:TS}{e:Expr}{te:TE}{pos:Pos}
abbrev aeK:TS:=λD σ H=>D.nx σ H
abbrev J0(t u:TS):TS:=λD σ H=>t { D with nx:=u D } σ H
theorem cp:fg X [] aeK:=λ_ _ σ H _ I h=>BU ⟨σ,H,I,h⟩
theorem ar(h1:PS X st t)(h2:fg X rest u):fg X (st::rest) (J0 t u):=by
 intro p_ s σ H D I h;refine wpAny_execs_cons (aI (h1 p_ s σ H { D with nx:=u D } I h) λf s1 q=>?_);cases f with
 | next=>
  obtain⟨σ',H',I',q⟩:=q;exact h2 p_ s1 σ' H' D I' q
 | ret v=>exact q
 | brk=>exact q
 | cont=>exact q
theorem aG(h1:PS X st t):fg X [st] t:=by
 intro p_ s σ H D I h;refine wpAny_execs_cons (aI (h1 p_ s σ H D I h) λf s1 q=>?_);cases f with
 | next=>exact BU q
 | ret v=>exact q
 | brk=>exact q
 | cont=>exact q
theorem Inv.quiet(I:Inv X p_ σ H s):interactive X.env=false:=by simp[interactive,I.ok.kind]
abbrev aeM(te:TE):TS:=λD σ H=>te σ H λ_ H1=>D.nx σ H1
theorem dq(he:PE X e te)(hs:Cj e b_ pos.line X.env=pure false:=by rfl):PS X (.Expr e pos) (aeM te):=by
 intro p_ s σ H D I h;exact wpAny_Expr_any (aI (he p_ s σ H _ I h) λv s1 ⟨x,H1,I1,r1,q1⟩=>⟨σ,H1,I1,q1⟩) I.quiet hs
abbrev agG(te:TE):TS:=λD σ H=>te σ H D.rt
theorem bg(he:PE X e te):PS X (.Return (a_ e) pos) (agG te):=by
 intro p_ s σ H D I h;exact wpAny_Return_some (aI (he p_ s σ H _ I h) λv s1 ⟨x,H1,I1,r1,q1⟩=>⟨x,σ,H1,I1,r1,q1⟩)
abbrev DG(c:TT)(t u:TS):TS:=λD σ H=>c σ H λb H1=>if b=c_ then t D σ H1 else u D σ H1
theorem bZ{a b:List Stmt}(hc:PT X c tc)(ha:fg X a t)(hb:fg X b u):PS X (.If c a b pos) (DG tc t u):=by
 intro p_ s σ H D I h;refine wpAny_If (aI (hc p_ s σ H _ I h) λd s1 ⟨H1,I1,q1⟩=>?_);cases d with
 | true=>exact ha p_ s1 σ H1 D I1 q1
 | false=>exact hb p_ s1 σ H1 D I1 q1
def acT:TS:=λ_ _ _=>False
theorem gV{sts:List Stmt}:fg X sts acT:=λ_ _ _ _ _ _ h=>h.elim
end
abbrev TG:=V->St->Hp->(St->Hp->Prop)->Prop
abbrev wG:=List V->St->Hp->(St->Hp->Prop)->Prop
def PG(X:Cx)(target:Expr)(t:TG):Prop:=
 ∀(p_:List (e_×Obj)) (s:g_) (σ:St) (H:Hp) (v:V) (u:f_) (Q:St->Hp->Prop),Inv X p_ σ H s->RelV v u->t v σ H Q->
  wpAny (model X.prog X.w) X.A (assign target X.env u) (λ_ s'=>∃σ' H',Inv X p_ σ' H' s'/\Q σ' H') X.xe s
def Eo(X:Cx)(ts:List Expr)(t:wG):Prop:=
 ∀(p_:List (e_×Obj)) (s:g_) (σ:St) (H:Hp) (vs:List V) (us:List f_) (Q:St->Hp->Prop),Inv X p_ σ H s->Vals vs us->t vs σ H Q->
  wpAny (model X.prog X.w) X.A (assignInOrder ((zS ts X.env).map (·.2)) us) (λ_ s'=>∃σ' H',Inv X p_ σ' H' s'/\Q σ' H') X.xe s
abbrev AM:=V->V->V->Hp->(Hp->Prop)->Prop
def Km(X:Cx)(t:AM):Prop:=
 ∀(p_:List (e_×Obj)) (s:g_) (σ:St) (H:Hp) (o i v:V) (ov iv u:f_) (Q:Hp->Prop),Inv X p_ σ H s->RelV o ov->RelV i iv->RelV v u->t o i v H Q->
  wpAny (model X.prog X.w) X.A (setItem ov iv u) (λ_ s'=>∃H',Inv X p_ σ H' s'/\Q H') X.xe s
abbrev Em:=V->V->Hp->VK->Prop
def Lb(X:Cx)(op:Operator)(t:Em):Prop:=
 ∀(p_:List (e_×Obj)) (s:g_) (σ:St) (H:Hp) (x y:V) (v u:f_) (Q:VK),Inv X p_ σ H s->RelV x v->RelV y u->t x y H Q->
  wpAny (model X.prog X.w) X.A (inplaceOp op v u) (EP X p_ σ Q) X.xe s
section
variable{X:Cx}{pos:Pos}
abbrev jj(i:Nat):TG:=λv σ H Q=>Q (σ.set i (a_ v)) H
theorem bb{i:Nat}(hN:X.N.Nodup)(hi:X.N[i]?=a_ x)(hx:Loc X.env.scope x)(hf:X.fn x=c_\/X.env.scope.names.lookup x=a_ .local:=by first | exact .inl rfl | exact .inr rfl | assumption):PG X (.Name x pos) (jj i):=by
 intro p_ s σ H v u Q I r h;exact wpAny_assign_Name (OR I hN hi hx r (λs' I'=>⟨_,H,I',h⟩) hf)
def SM:wG:=λvs σ H Q=>vs=[]/\Q σ H
def JI(t:TG)(u:wG):wG:=λvs σ H Q=>∃v r,vs=v::r/\t v σ H λσ' H'=>u r σ' H' Q
theorem kQ:Eo X [] SM:=by
 intro p_ s σ H vs us Q I r h;obtain⟨e,h⟩:=h;subst e;cases r;exact assignInOrder_nil ⟨σ,H,I,h⟩
theorem dn{es:List Expr}{t:TG}{u:wG}(h1:PG X e t)(h2:Eo X es u)
  (hs:(zS (e::es) X.env).map (·.2)=assign e X.env::(zS es X.env).map (·.2):=by rfl):Eo X (e::es) (JI t u):=by
 intro p_ s σ H vs us Q I r h;obtain⟨v,vr,e1,h⟩:=h;subst e1;cases r with
 | cons r rr=>
  rw[hs];exact assignInOrder_cons (aI (h1 p_ s σ H _ _ _ I r h) λ_ s1 ⟨σ1,H1,I1,q1⟩=>h2 p_ s1 σ1 H1 _ _ Q I1 rr q1)
def SK(K:u_)(n:Nat)(t:wG):TG:=λv σ H Q=>∃a xs,v=.ref a/\aB K H a xs/\xs.length=n/\t xs σ H Q
theorem kX{es:List Expr}{k:Nat}{t:wG}{n:Nat}(hc:X.calm=c_)(h:Eo X es t)
  (hn:(zS es X.env).length=n:=by rfl) (dv:(zS es X.env).findIdx? (·.1)=none:=by rfl):PG X (.Tuple es k pos) (SK X.K n t):=by
 intro p_ s σ H v u Q I r hw;obtain⟨a,xs,e1,hq,hl,hw⟩:=hw;subst e1;cases r;obtain⟨its,rv,ht,hz⟩:=I.tuple hq;refine assign_Tuple_tuple (I.ok.hd hc) ht (by simp[hn,<-hl,rv.length]) dv λh' hx=>?_;have I1:=I.kept (t':=s.toks) λb o e=>hx b o (cI (bq e)) e;exact h p_ _ σ H xs _ Q I1 (by simpa using rv) hw
def ag8(to ti:TE)(t:AM):TG:=λv σ H Q=>to σ H λo H1=>ti σ H1 λi H2=>t o i v H2 λH3=>Q σ H3
theorem IX{t:AM}(ho:PE X o to)(hi:PE X i ti)(hs:Km X t)
  (ha:∀v,assign (.Subscript o i pos) X.env v=(do
   let ov <-holding [v] (eval o X.env)
   let iv <-holding [v,ov] (eval i X.env)
   standAt pos
   holding [v,ov,iv] (setItem ov iv v)
   release [v,ov,iv] []):=by intro _;rfl):PG X (.Subscript o i pos) (ag8 to ti t):=by
 intro p_ s σ H v u Q I r h;rw[ha];exact aj (jw (aI (ho p_ s σ H _ I h) λov s1 ⟨x,H1,I1,r1,q1⟩=>aj (jw (aI (hi p_ s1 σ H1 _ I1 q1) λiv s2 ⟨y,H2,I2,r2,q2⟩=>aj (Nl (aj (jw (aI (hs p_ s2 σ H2 x y v ov iv u _ I2 r1 r2 r q2) λ_ s3 ⟨H3,I3,q3⟩=>wpAny_release ⟨σ,H3,I3,q3⟩))))))))
abbrev J3(te:TE)(g:TG):TS:=λD σ H=>te σ H λx H1=>g x σ H1 D.nx
theorem Df(he:PE X e te)(hg:PG X tg g)(hs:swapsWithSole [tg] e pos.line X.env=pure false:=by rfl)(hw:swappedStores [tg] e X.env=pure none:=by rfl)
  (h1:(zS [tg] X.env).map (·.2)=[assign tg X.env]:=by rfl):PS X (.Assign [tg] e pos) (J3 te g):=by
 intro p_ s σ H D I h;refine wpAny_Assign_stores (aI (he p_ s σ H _ I h) λv s1 ⟨x,H1,I1,r1,q1⟩=>?_) hs hw;rw[h1];exact aI (hg p_ s1 σ H1 x v _ I1 r1 q1) λ_ s2 q=>q
theorem bp{i:Nat}(hN:X.N.Nodup)(hi:X.N[i]?=a_ x)(hx:Loc X.env.scope x)(he:PE X e te)(hs:Cj e (a_ (.Name x pos')) pos.line X.env=pure false:=by rfl)(hf:X.fn x=c_\/X.env.scope.names.lookup x=a_ .local:=by first | exact .inl rfl | exact .inr rfl | assumption) :
  PS X (.Assign [.Name x pos'] e pos) (J3 te (jj i)):=by
 intro p_ s σ H D I h;refine wpAny_Assign_Name (aI (he p_ s σ H _ I h) λv s1 ⟨y,H1,I1,r1,q1⟩=>?_) hs;exact OR I1 hN hi hx r1 (λs2 I2=>⟨_,H1,I2,q1⟩) hf
def aeQ(to ti te:TE)(DT:V->V->Hp->VK->Prop)(Ew:Em)(DS:AM):TS:=λD σ H=>to σ H λo H1=>ti σ H1 λi H2=>DT o i H2 λx H3=>te σ H3 λy H4=>Ew x y H4 λz H5=>DS o i z H5 λH6=>D.nx σ H6
def SY(X:Cx)(t:V->V->Hp->VK->Prop):Prop:=
 ∀(p_:List (e_×Obj)) (s:g_) (σ:St) (H:Hp) (o i:V) (ov iv:f_) (Q:VK),Inv X p_ σ H s->RelV o ov->RelV i iv->t o i H Q->
  wpAny (model X.prog X.w) X.A (getItem ov iv) (EP X p_ σ Q) X.xe s
theorem Ig{DT:V->V->Hp->VK->Prop}{Ew:Em}{DS:AM}{op:Operator}(ho:PE X o to)(hi:PE X i ti)(hg:SY X DT)(he:PE X e te)(hp:Lb X op Ew)(hs:Km X DS)
  (ha:∀ov iv new,augStore i ov iv new=(do holding [new,ov,iv] (setItem ov iv new);release [new,ov,iv] [];pure .next):=by intros;rfl):PS X (.AugAssign (.Subscript o i AO) op e pos) (aeQ to ti te DT Ew DS):=by
 intro p_ s σ H D I h;refine wpAny_AugAssign_SubscriptAny (aI (ho p_ s σ H _ I h) λov s1 ⟨x1,H1,I1,r1,q1⟩=>?_) ha;exact aI (hi p_ s1 σ H1 _ I1 q1) λiv s2 ⟨x2,H2,I2,r2,q2⟩=>aI (hg p_ s2 σ H2 x1 x2 ov iv _ I2 r1 r2 q2) λold s3 ⟨x3,H3,I3,r3,q3⟩=>aI (he p_ s3 σ H3 _ I3 q3) λv s4 ⟨x4,H4,I4,r4,q4⟩=>aI (hp p_ s4 σ H4 x3 x4 old v _ I4 r3 r4 q4) λnew s5 ⟨x5,H5,I5,r5,q5⟩=>aI (hs p_ s5 σ H5 x1 x2 x5 ov iv new _ I5 r1 r2 r5 q5) λ_ s6 ⟨H6,I6,q6⟩=>⟨σ,H6,I6,q6⟩
def Ue(f:Int->Int->Int):Em:=λx y H Q=>∃i j,x=.int i/\y=.int j/\Q (.int (f i j)) H
theorem Rj:Lb X .Add (Ue λi j=>i+j):=by
 intro p_ s σ H x y v u Q I r1 r2 h;obtain⟨i,j,e1,e2,q⟩:=h;subst e1;subst e2;obtain⟨t,rfl⟩:=r1;obtain⟨t',rfl⟩:=r2;exact iadd_int ⟨.int _,H,I.tok _,⟨_,rfl⟩,q⟩
theorem adU:Lb X .Sub (Ue λi j=>i-j):=by
 intro p_ s σ H x y v u Q I r1 r2 h;obtain⟨i,j,e1,e2,q⟩:=h;subst e1;subst e2;obtain⟨t,rfl⟩:=r1;obtain⟨t',rfl⟩:=r2;exact isub_int ⟨.int _,H,I.tok _,⟨_,rfl⟩,q⟩
end
section
variable{X:Cx}{pos:Pos}
def acS(c:TT)(tb:TS):TS:=λD σ H=>∃W:Nat->St->Hp->Prop,(∃m,W m σ H)/\∀m σ H,W m σ H->
 c σ H λb H1=>if b=c_ then ∃N:St->Hp->Prop,(∀σ' H',N σ' H'->∃m',m'<m/\W m' σ' H')/\tb { D with nx:=N,ct:=N,bk:=D.nx } σ H1 else D.nx σ H1
theorem Hr{body:List Stmt}(hp:fG (model X.prog X.w) X.A X.env X.xe)(hc:PT X c tc)(hb:fg X body tb):PS X (.While c body [] pos) (acS tc tb):=by
 intro p_ s σ H D I h;obtain⟨W,⟨m0,w0⟩,turn⟩:=h;refine wpAny_While (codeAny_whileLoop (λn s'=>∃σ' H',Inv X p_ σ' H' s'/\W n σ' H') ?_ m0 ⟨σ,H,I,w0⟩);rintro n s1 ⟨σ1,H1,I1,w1⟩;refine xF hp (aI (hc p_ s1 σ1 H1 _ I1 (turn n σ1 H1 w1)) λb s2 ⟨H2,I2,q2⟩=>?_);cases b with
 | true=>
  obtain⟨N,hN,q2⟩:=q2;rw[if_pos rfl];refine xF hp (aI (hb p_ s2 σ1 H2 _ I2 q2) λf s3 q3=>?_);cases f with
  | next=>
   obtain⟨σ3,H3,I3,n3⟩:=q3;obtain⟨m',hm,w3⟩:=hN σ3 H3 n3;exact⟨m',hm,σ3,H3,I3,w3⟩
  | cont=>
   obtain⟨σ3,H3,I3,n3⟩:=q3;obtain⟨m',hm,w3⟩:=hN σ3 H3 n3;exact⟨m',hm,σ3,H3,I3,w3⟩
  | brk=>exact q3
  | ret v=>exact q3
 | false=>
  rw[if_neg dO];exact BU ⟨σ1,H2,I2,q2⟩
end
structure It where
 go:Nat->Hp->Prop
 uD:Nat->Hp->V->Hp->Prop
 stop:Nat->Hp->Prop
def ip(X:Cx)(p_:List (e_×Obj))(H:Hp)(b:e_):Prop:=
 H b=b_/\b≠X.env.locals/\b∉X.fs/\(b∈X.ex\/X.s₀.heap.objs.size<=b)/\(∀x c,X.env.cells.lookup x=a_ c->c≠b)/\∀p∈X.pn++p_,p.1≠b
theorem Inv.iM{X:Cx}(I:Inv X p_ σ H s)(hb:s.heap.objs.size<=b)(hn:H' b=b_):ip X p_ H' b:=by
 refine⟨hn,rh (gq I.lt hb),I.SD hb,.inr (cx I.sz hb),λx c e z=>?_,λp hp z=>?_⟩
 ·obtain⟨v,q⟩:=I.cell x c e;exact absurd (gq q.lt (by rw[z];exact hb)) (nu _)
 ·exact absurd (gq (bq (I.pin p hp).1) (by rw[z];exact hb)) (nu _)
structure Turn(P:l_)(w:k_)(K:u_)(tg:Expr)(J:It)(fp:List e_)(it:e_)(tn:Nat->j_->Prop):Prop where
 mem:it∈fp
 obj:∀i h,tn i h->∀b∈fp,∃o,h.get? b=a_ o/\∀v,o.data≠.cell v
 keep:∀i h h',tn i h->(∀b∈fp,∀o,h.get? b=a_ o->h'.get? b=a_ o)->tn i h'
 item:∀(X:Cx),X.prog=P->X.w=w->X.K=K->X.calm=c_->∀(i:Nat) (p_:List (e_×Obj)) (s:g_) (σ:St) (H:Hp) (E:f_->g_->Prop),Inv X p_ σ H s->(∀b∈fp,ip X p_ H b)->tn i s.heap->J.go i H->
  wpAny (model P w) X.A (pyNext (.ref it)) (λr s1=>∃u,r=a_ u/\
   wpAny (model P w) X.A (FG tg (.ref it) u) (λ_ s2=>∃x H',Inv X p_ σ H' s2/\RelV x u/\J.uD i H x H'/\tn (i+1) s2.heap/\∀b∈fp,H' b=b_) E s1) E s
 done:∀(X:Cx),X.prog=P->X.w=w->X.K=K->X.calm=c_->∀(i:Nat) (p_:List (e_×Obj)) (s:g_) (σ:St) (H:Hp) (E:f_->g_->Prop),Inv X p_ σ H s->(∀b∈fp,ip X p_ H b)->tn i s.heap->J.stop i H->
  wpAny (model P w) X.A (pyNext (.ref it)) (λr s1=>r=b_/\Inv X p_ σ H s1) E s
 self:∀(A:h_) (i:Nat) (s:g_) (Q:f_->g_->Prop) (E:f_->g_->Prop),tn i s.heap->Q (.ref it) s->wpAny (model P w) A (pyIter (.ref it)) Q E s
abbrev TI:=St->Hp->(It->Hp->Prop)->Prop
def Uo(X:Cx)(p_:List (e_×Obj))(σ:St)(tg:Expr)(R:It->Hp->Prop)(EL:f_)(s2:g_):Prop:=
 ∃(it:e_) (fp:List e_) (tn:Nat->j_->Prop) (J:It) (H':Hp),EL=.ref it/\Inv X p_ σ H' s2/\Turn X.prog X.w X.K tg J fp it tn/\tn 0 s2.heap/\(∀b∈fp,ip X p_ H' b)/\R J H'
def PI(X:Cx)(tg iter:Expr)(wi:TI):Prop:=
 ∀(p_:List (e_×Obj)) (s:g_) (σ:St) (H:Hp) (R:It->Hp->Prop),Inv X p_ σ H s->wi σ H R->
  wpAny (model X.prog X.w) X.A (eval iter X.env) (λv s1=>wpAny (model X.prog X.w) X.A (pyIter v) (Uo X p_ σ tg R) X.xe s1) X.xe s
theorem JH{M:Model}{n:String}{vs:Array f_}{Q:Unit->g_->Prop}(ho:s.heap.get? it=a_ o)(hc:o.cls=.type n)(hd:o.data=.fields vs)
  (hn:["enumerate","zip","dict_itemiterator","dict_reverseitemiterator","odict_iterator","itertools.zip_longest","itertools.pairwise"].contains n=d_) (hQ:Q () s):wpAny M A (FG tg (.ref it) u) Q E s:=by
 unfold FG
 cases tg <;> first
  | exact aM hQ
  | (cases u <;> first
    | exact aM hQ
    | (refine aj (wpAny_load ho ?_);rw[hc,hd];show wpAny M A (if (["enumerate","zip","dict_itemiterator","dict_reverseitemiterator","odict_iterator","itertools.zip_longest","itertools.pairwise"].contains n&&vs[0]? == a_ (rawInt _))=c_ then _ else _) Q E s;rw[if_neg (by intro h;rw[hn,Bool.false_and]at h;cases h)];exact aM hQ))
def A3(K:u_)(a:e_):It:=
 ⟨λi H=>∃xs x,ae K H a xs/\xs[i]?=a_ x,λi H x H'=>H'=H/\∀xs,ae K H a xs->xs[i]?=a_ x,λi H=>∃xs,ae K H a xs/\xs.length<=i⟩
def Ut(K:u_)(a:e_):It:=
 ⟨λi H=>∃xs x,aB K H a xs/\xs[i]?=a_ x,λi H x H'=>H'=H/\∀xs,aB K H a xs->xs[i]?=a_ x,λi H=>∃xs,aB K H a xs/\xs.length<=i⟩
def yW(lo:Int)(n:Nat):It:=⟨λi _=>i<n,λi H x H'=>H'=H/\x=.int (lo+i),λi _=>n<=i⟩
theorem YV{P:l_}{w:k_}{K:u_}(a it:e_):Turn P w K tg (A3 K a) [it] it (λi h=>h.IsListIter it a i) where
 mem:=by simp
 obj:=λi h st b hb=>by
  have e:b=it:=by simpa using hb
  subst e;obtain⟨o,e,c,d⟩:=st;exact⟨o,e,λv z=>by rw[d]at z;cases z⟩
 keep:=λi h h' st k=>st.at λo e=>k it (by simp) o e
 item:=by
  intro X hP hw hK hc i p_ s σ H E I hf st hg;subst hP hw hK;obtain⟨xs,x,hq,hx⟩:=hg;obtain⟨its,rv,p,hz⟩:=I.list hq;obtain⟨u,hu,ru⟩:=rv.get hx;obtain⟨f0,f1,f2,f3,f4,f5⟩:=hf it (by simp);refine W8 st p.isList (x:=u) (by simpa using hu) λh' ak sb=>?_;have I1:=I.turned (t':=s.toks) (λb o hb e=>(sb.2 b hb).trans e) f0 f1 f3 f4 f5;obtain⟨o,e,c,d⟩:=id ak;exact⟨u,rfl,JH (s:={ s with heap:=h' }) e c d qc ⟨x,H,I1,ru,⟨rfl,λys hy=>by rw[I.Ph hy hq];exact hx⟩,ak,λb hb=>(hf b hb).1⟩⟩
 done:=by
  intro X hP hw hK hc i p_ s σ H E I hf st hg;subst hP hw hK;obtain⟨xs,hq,hx⟩:=hg;obtain⟨its,rv,p,hz⟩:=I.list hq;obtain⟨f0,f1,f2,f3,f4,f5⟩:=hf it (by simp);have hl:=rv.length;exact Xd (I.ok.hd hc) st p.isList (by simp;omega) λh' eb=>⟨rfl,I.turned (t':=s.toks) (λb o hb e=>eb b o hb e) f0 f1 f3 f4 f5⟩
 self:=λ_ _ _ _ _ st h=>wpAny_pyIter_listiter st h
theorem Yk{P:l_}{w:k_}{K:u_}(a it:e_):Turn P w K tg (Ut K a) [it] it (λi h=>h.IsTupleIter it a i) where
 mem:=by simp
 obj:=λi h st b hb=>by
  have e:b=it:=by simpa using hb
  subst e;obtain⟨o,e,c,d⟩:=st;exact⟨o,e,λv z=>by rw[d]at z;cases z⟩
 keep:=λi h h' st k=>st.at λo e=>k it (by simp) o e
 item:=by
  intro X hP hw hK hc i p_ s σ H E I hf st hg;subst hP hw hK;obtain⟨xs,x,hq,hx⟩:=hg;obtain⟨its,rv,p,hz⟩:=I.tuple hq;obtain⟨u,hu,ru⟩:=rv.get hx;obtain⟨f0,f1,f2,f3,f4,f5⟩:=hf it (by simp);refine wpAny_pyNext_tuple_item st (show s.heap.IsTuple a its.toArray from p) (x:=u) (by simpa using hu) λh' ak sb=>?_;have I1:=I.turned (t':=s.toks) (λb o hb e=>(sb.2 b hb).trans e) f0 f1 f3 f4 f5;obtain⟨o,e,c,d⟩:=id ak;exact⟨u,rfl,JH (s:={ s with heap:=h' }) e c d qc ⟨x,H,I1,ru,⟨rfl,λys hy=>by rw[I.Oc hy hq];exact hx⟩,ak,λb hb=>(hf b hb).1⟩⟩
 done:=by
  intro X hP hw hK hc i p_ s σ H E I hf st hg;subst hP hw hK;obtain⟨xs,hq,hx⟩:=hg;obtain⟨its,rv,p,hz⟩:=I.tuple hq;obtain⟨f0,f1,f2,f3,f4,f5⟩:=hf it (by simp);have hl:=rv.length;exact wpAny_pyNext_tuple_end (I.ok.hd hc) st (show s.heap.IsTuple a its.toArray from p) (by simp;omega) λh' eb=>⟨rfl,I.turned (t':=s.toks) (λb o hb e=>eb b o hb e) f0 f1 f3 f4 f5⟩
 self:=λ_ _ _ _ _ st h=>wpAny_pyIter_tupleiter st h
theorem Yl{P:l_}{w:k_}{K:u_}(it:e_)(lo:Int)(n:Nat):Turn P w K tg (yW lo n) [it] it (λi h=>IsRangeIter h it (lo+(i:Nat)*1) ((n:Int)-(i:Nat)) 1) where
 mem:=by simp
 obj:=λi h st b hb=>by
  have e:b=it:=by simpa using hb
  subst e
  exact⟨_,st,λv z=>by
   have z':Data.fields _=Data.cell v:=z;cases z'⟩
 keep:=λi h h' st k=>k it (by simp) _ st
 item:=by
  intro X hP hw hK hc i p_ s σ H E I hf st hg;subst hP hw hK;obtain⟨f0,f1,f2,f3,f4,f5⟩:=hf it (by simp);have W:=Walks.range (prog:=X.prog) (w:=X.w) (I.ok.hd hc) it lo 1 n;refine W.item i s _ _ hg st λv h' tk hv ak kk=>?_;obtain⟨t,rfl⟩:=hv;have I1:Inv X p_ σ H { s with heap:=h',toks:=tk }:=I.turned (λb o hb e=>kk b o (by simpa using hb) e) f0 f1 f3 f4 f5;refine⟨_,rfl,JH (s:={ s with heap:=h',toks:=tk }) (n:="range_iterator") ak rfl rfl qc ⟨.int (lo+i),H,I1,⟨t,?_⟩,⟨rfl,rfl⟩,ak,λb hb=>(hf b hb).1⟩⟩;rw[Int.mul_one]
 done:=by
  intro X hP hw hK hc i p_ s σ H E I hf st hg;subst hP hw hK;obtain⟨f0,f1,f2,f3,f4,f5⟩:=hf it (by simp);exact wpAny_pyNext_range_end (I.ok.hd hc) st (by have:n<=i:=hg;omega) λh' eb=>⟨rfl,I.turned (t':=s.toks) (λb o hb e=>eb b o hb e) f0 f1 f3 f4 f5⟩
 self:=λ_ _ _ _ _ st h=>wpAny_pyIter_rangeiter st h
section
variable{X:Cx}{tg:Expr}
def afx(K:u_)(tl:TE):TI:=λσ H R=>tl σ H λx H1=>∃a,x=.ref a/\(∃xs,ae K H1 a xs)/\R (A3 K a) H1
def SH(K:u_)(tl:TE):TI:=λσ H R=>tl σ H λx H1=>∃a,x=.ref a/\(∃xs,aB K H1 a xs)/\R (Ut K a) H1
theorem nC(hl:PE X l tl):PI X tg l (afx X.K tl):=by
 intro p_ s σ H R I h;refine aI (hl p_ s σ H _ I h) λv s1 ⟨x,H1,I1,r1,q1⟩=>?_;obtain⟨a,e,⟨xs,hq⟩,q⟩:=q1;subst e;cases r1;obtain⟨its,rv,p,hz⟩:=I1.list hq;refine xC p.isList ⟨s1.heap.objs.size,[s1.heap.objs.size],_,_,H1,rfl,I1.kept (t':=s1.toks) λb o e=>aY _ e,YV a _,⟨_,dw _ rfl,rfl,rfl⟩,λb hb=>?_,q⟩;have e:b=s1.heap.objs.size:=by simpa using hb
 subst e;exact I1.iM (aw _) (I1.aD.fresh (aw _))
theorem rJ(hl:PE X l tl):PI X tg l (SH X.K tl):=by
 intro p_ s σ H R I h;refine aI (hl p_ s σ H _ I h) λv s1 ⟨x,H1,I1,r1,q1⟩=>?_;obtain⟨a,e,⟨xs,hq⟩,q⟩:=q1;subst e;cases r1;obtain⟨its,rv,p,hz⟩:=I1.tuple hq;refine wpAny_pyIter_tuple (show s1.heap.IsTuple a its.toArray from p) ⟨s1.heap.objs.size,[s1.heap.objs.size],_,_,H1,rfl,I1.kept (t':=s1.toks) λb o e=>aY _ e,Yk a _,⟨_,dw _ rfl,rfl,rfl⟩,λb hb=>?_,q⟩;have e:b=s1.heap.objs.size:=by simpa using hb
 subst e;exact I1.iM (aw _) (I1.aD.fresh (aw _))
theorem aab{R:It->Hp->Prop}{lo hi:Int}{t u v:Tok}{tk:Nat}(I:Inv X p_ σ H s)(h1:-(2^62)<=lo)(h2:lo<2^62)(h3:-(2^62)<=hi)(h4:hi<2^62)
  (q:R (yW lo (hi-lo).toNat) H):wpAny (model X.prog X.w) X.A (pyIter (.ref s.heap.objs.size)) (Uo X p_ σ tg R) E { s with heap:=s.heap.push { cls:=.type "range",data:=.fields #[.int lo t,.int hi u,.int 1 v] },toks:=tk }:=by
 refine wpAny_pyIter_range (IsRange.new ..) (small_one h1 h2 h3 h4) ?_;have I1:Inv X p_ σ H { s with heap:=s.heap.push { cls:=.type "range",data:=.fields #[.int lo t,.int hi u,.int 1 v] },toks:=tk }:=I.kept λb o e=>aY _ e;refine⟨(s.heap.push { cls:=.type "range",data:=.fields #[.int lo t,.int hi u,.int 1 v] }).objs.size,[(s.heap.push { cls:=.type "range",data:=.fields #[.int lo t,.int hi u,.int 1 v] }).objs.size],_,_,H,rfl,I1.kept (t':=tk) λb o e=>aY _ e,Yl _ lo (hi-lo).toNat,?_,λb hb=>?_,q⟩
 ·have e1:lo+((0:Nat):Int)*1=lo:=by simp
  have e2:(((hi-lo).toNat:Nat):Int)-((0:Nat):Int)=Builtin.Range.rangeSize lo hi 1:=by rw[rangeSize_one];split <;> omega
  show IsRangeIter _ _ (lo+((0:Nat):Int)*1) ((((hi-lo).toNat:Nat):Int)-((0:Nat):Int)) 1;rw[e1,e2];exact dw _ rfl
 ·have e:b=(s.heap.push { cls:=.type "range",data:=.fields #[.int lo t,.int hi u,.int 1 v] }).objs.size:=by simpa using hb
  subst e;exact I1.iM (aw _) (I1.aD.fresh (aw _))
def afw(ta:TA):TI:=λσ H R=>ta σ H λvs H1=>∃j:Int,vs=[.int j]/\-(2^62)<=j/\j<2^62/\R (yW 0 j.toNat) H1
theorem jh(hg:Gl X "range")(hm:X.mg "range" = b_)(ha:PA X [a] ta)(hs:cA [a] X.env=[(d_,eval a X.env)]:=by rfl):PI X tg (.Call (.Name "range" p) [a] [] pos) (afw ta):=by
 intro p_ s σ H R I h;refine Call_ (oH I hg hm boot_range (vg (aI (ha pos p_ s σ H _ I h) λus s1 ⟨vs,H1,I1,r1,q1⟩=>?_) hs rfl));obtain⟨j,e,q1,q2,q⟩:=q1;subst e;cases r1 with
 | cons r rr=>
  cases rr;obtain⟨t,rfl⟩:=r;exact call_range_1 (aab I1 om om q1 q2 (by simpa using q))
def agK(wi:TI)(g:TG)(tb:TS):TS:=λD σ H=>wi σ H λJ H1=>∃W:Nat->Nat->St->Hp->Prop,(∃m,W 0 m σ H1)/\∀i m σ H,W i m σ H->
 (J.stop i H/\D.nx σ H)\/(J.go i H/\∃N:St->Hp->Prop,(∀σ' H',N σ' H'->∃m',m'<m/\W (i+1) m' σ' H')/\∀x H',J.uD i H x H'->g x σ H' λσ2 H2=>tb { D with nx:=N,ct:=N,bk:=D.nx } σ2 H2)
def Aq(fp:List e_)(h:j_):List (e_×Obj):=fp.filterMap λb=>(h.get? b).map λo=>(b,o)
theorem xP{fp:List e_}(hb:b∈fp)(e:h.get? b=a_ o):(b,o)∈Aq fp h:=List.mem_filterMap.mpr ⟨b,hb,by rw[e];rfl⟩
theorem Ow{fp:List e_}{p:e_×Obj}(hp:p∈Aq fp h):p.1∈fp/\h.get? p.1=a_ p.2:=by
 obtain⟨b,hb,e⟩:=List.mem_filterMap.mp hp;cases q:h.get? b with
 | none=>rw[q]at e;cases e
 | some o=>
  rw[q]at e;have e':(b,o)=p:=cu e;subst e';exact⟨hb,q⟩
theorem Inv.pinned{fp:List e_}(I:Inv X p_ σ H s)(hf:∀b∈fp,ip X p_ H b)(ho:∀b∈fp,∃o,s.heap.get? b=a_ o/\∀v,o.data≠.cell v):Inv X (p_++Aq fp s.heap) σ H s:=
 I.tK λp hp=>(List.mem_append.mp hp).elim (λz=>I.pin p (List.mem_append_right _ z)) λz=>by
  obtain⟨hb,e⟩:=Ow z;obtain⟨f0,f1,f2,_⟩:=hf p.1 hb;obtain⟨o,e',d⟩:=ho p.1 hb;rw[e]at e';cases e';exact⟨e,f0,f1,f2,d⟩
theorem Inv.Cq(I:Inv X (p_++pl) σ H s):Inv X p_ σ H s:=I.tK λp hp=>I.pin p (List.mem_append_right _ (List.mem_append_left _ hp))
theorem hV{body:List Stmt}{wi:TI}(hp:fG (model X.prog X.w) X.A X.env X.xe)(hc:X.calm=c_)(hi:PI X tg iter wi)(hg:PG X tg g)(hb:fg X body tb)
  (hs:∀x,MV iter X.env x=pure x:=by intro _;rfl):PS X (.For tg iter body [] pos) (agK wi g tb):=by
 intro p_ s σ H D I h;refine wpAny_For (aI (hi p_ s σ H _ I h) λv s1 h1=>aI h1 λEL s2 h2=>?_) hs;obtain⟨it,fp,tn,J,H2,e,I2,T,du,f2,W,⟨m0,w0⟩,turn⟩:=h2;subst e;have Ko:∀{H':Hp},(∀b∈fp,H' b=b_)->∀b∈fp,ip X p_ H' b:=λhn b hb=>⟨hn b hb,(f2 b hb).2⟩;refine codeAny_forLoop_any (λn s'=>∃i σ' H',Inv X p_ σ' H' s'/\tn i s'.heap/\(∀b∈fp,H' b=b_)/\W i n σ' H') ?_ m0 ⟨0,σ,H2,I2,du,λb hb=>(f2 b hb).1,w0⟩;rintro n s3 ⟨i,σ3,H3,I3,gD,BA,w3⟩;rcases turn i n σ3 H3 w3 with ⟨stop,qn⟩ | ⟨go,N,hN,step⟩
 ·refine xF hp (aI (T.done X rfl rfl rfl hc i p_ s3 σ3 H3 X.xe I3 (Ko BA) gD stop) λr s4 ⟨hr,I4⟩=>?_);subst hr;exact BU ⟨σ3,H3,I4,qn⟩
 ·refine xF hp (aI (T.item X rfl rfl rfl hc i p_ s3 σ3 H3 X.xe I3 (Ko BA) gD go) λr s4 ⟨u,hr,h4⟩=>?_);subst hr;refine xF hp (aI h4 λ_ s5 ⟨x,H5,I5,r5,y5,er,Mo⟩=>?_);have My:=I5.pinned (Ko Mo) (T.obj _ _ er);refine xF hp (aI (hg _ s5 σ3 H5 x u _ My r5 (step x H5 y5)) λ_ s6 ⟨σ6,H6,I6,q6⟩=>xF hp (aI (hb _ s6 σ6 H6 _ I6 q6) λf s7 q7=>?_))
  have again:∀{σ7:St} {H7:Hp},Inv X (p_++Aq fp s5.heap) σ7 H7 s7->N σ7 H7->∃m,m<n/\∃i σ' H',Inv X p_ σ' H' s7/\tn i s7.heap/\(∀b∈fp,H' b=b_)/\W i m σ' H':=λ{σ7 H7} I7 n7=>by
   obtain⟨m',hm,w7⟩:=hN σ7 H7 n7;refine⟨m',hm,i+1,σ7,H7,I7.Cq,T.keep _ _ _ er λb hb o e=>(I7.pin (b,o) (List.mem_append_right _ (List.mem_append_right _ (xP hb e)))).1,λb hb=>?_,w7⟩;obtain⟨o,e,d⟩:=T.obj _ _ er b hb;exact(I7.pin (b,o) (List.mem_append_right _ (List.mem_append_right _ (xP hb e)))).2.1
  cases f with
  | next=>obtain⟨σ7,H7,I7,n7⟩:=q7;exact again I7 n7
  | cont=>obtain⟨σ7,H7,I7,n7⟩:=q7;exact again I7 n7
  | brk=>obtain⟨σ7,H7,I7,q7⟩:=q7;exact⟨σ7,H7,I7.Cq,q7⟩
  | ret v=>obtain⟨x7,σ7,H7,I7,r7,q7⟩:=q7;exact⟨x7,σ7,H7,I7.Cq,r7,q7⟩
end
theorem x9{K:u_}{a:e_}{xs:List V}{g:TG}{tb:TS}{D:Ends}{σ:St}{H:Hp}(Pv:Nat->St->Hp->Prop)(h0:Pv 0 σ H)(hl:∀i σ H,i<=xs.length->Pv i σ H->ae K H a xs)
  (hs:∀i x σ H,xs[i]?=a_ x->Pv i σ H->g x σ H λσ2 H2=>tb { D with nx:=Pv (i+1),ct:=Pv (i+1),bk:=D.nx } σ2 H2) (hd:∀σ H,Pv xs.length σ H->D.nx σ H) :
  ∃W:Nat->Nat->St->Hp->Prop,(∃m,W 0 m σ H)/\∀i m σ H,W i m σ H->
   ((A3 K a).stop i H/\D.nx σ H)\/((A3 K a).go i H/\∃N:St->Hp->Prop,(∀σ' H',N σ' H'->∃m',m'<m/\W (i+1) m' σ' H')/\∀x H',(A3 K a).uD i H x H'->g x σ H' λσ2 H2=>tb { D with nx:=N,ct:=N,bk:=D.nx } σ2 H2):=by
 refine⟨λi m σ H=>m=xs.length-i/\i<=xs.length/\Pv i σ H,⟨xs.length,by simp,aP _,h0⟩,?_⟩;rintro i m σ H ⟨rfl,hi,p⟩;have q:=hl i σ H hi p
 by_cases bG:i<xs.length
 ·refine .inr ⟨⟨xs,xs[i],q,by simp[bG]⟩,Pv (i+1),λσ' H' p'=>⟨xs.length-(i+1),om,rfl,bG,p'⟩,λx H' y=>?_⟩;obtain⟨e,y⟩:=y;subst e;exact hs i x σ _ (y xs q) p
 ·have e:i=xs.length:=om;subst e;exact .inl ⟨⟨xs,q,aw _⟩,hd σ H p⟩
theorem rB{lo:Int}{n:Nat}{g:TG}{tb:TS}{D:Ends}{σ:St}{H:Hp}(Pv:Nat->St->Hp->Prop)(h0:Pv 0 σ H)
  (hs:∀i σ H,i<n->Pv i σ H->g (.int (lo+i)) σ H λσ2 H2=>tb { D with nx:=Pv (i+1),ct:=Pv (i+1),bk:=D.nx } σ2 H2) (hd:∀σ H,Pv n σ H->D.nx σ H) :
  ∃W:Nat->Nat->St->Hp->Prop,(∃m,W 0 m σ H)/\∀i m σ H,W i m σ H->
   ((yW lo n).stop i H/\D.nx σ H)\/((yW lo n).go i H/\∃N:St->Hp->Prop,(∀σ' H',N σ' H'->∃m',m'<m/\W (i+1) m' σ' H')/\∀x H',(yW lo n).uD i H x H'->g x σ H' λσ2 H2=>tb { D with nx:=N,ct:=N,bk:=D.nx } σ2 H2):=by
 refine⟨λi m σ H=>m=n-i/\i<=n/\Pv i σ H,⟨n,by simp,aP _,h0⟩,?_⟩;rintro i m σ H ⟨rfl,hi,p⟩
 by_cases bG:i<n
 ·refine .inr ⟨bG,Pv (i+1),λσ' H' p'=>⟨n-(i+1),om,rfl,bG,p'⟩,λx H' y=>?_⟩;obtain⟨e,y⟩:=y;subst e y;exact hs i σ _ bG p
 ·have e:i=n:=om;subst e;exact .inl ⟨aw _,hd σ H p⟩
abbrev R2:=V->V->Hp->VK->Prop
def dD(X:Cx)(f:f_->f_->Sem f_)(r:R2):Prop:=
 ∀(p_:List (e_×Obj)) (s:g_) (σ:St) (H:Hp) (x y:V) (v u:f_) (Q:VK),Inv X p_ σ H s->RelV x v->RelV y u->r x y H Q->
  wpAny (model X.prog X.w) X.A (f v u) (EP X p_ σ Q) X.xe s
def K'(X:Cx)(f:f_->Sem f_)(r:V->Hp->VK->Prop):Prop:=
 ∀(p_:List (e_×Obj)) (s:g_) (σ:St) (H:Hp) (x:V) (v:f_) (Q:VK),Inv X p_ σ H s->RelV x v->r x H Q->
  wpAny (model X.prog X.w) X.A (f v) (EP X p_ σ Q) X.xe s
def jC(X:Cx)(f:f_)(r:List V->Hp->VK->Prop):Prop:=
 ∀(p_:List (e_×Obj)) (s:g_) (σ:St) (H:Hp) (xs:List V) (us:List f_) (Q:VK),Inv X p_ σ H s->Vals xs us->r xs H Q->
  wpAny (model X.prog X.w) X.A (call f us) (EP X p_ σ Q) X.xe s
abbrev wz(r:R2)(ta tb:TE):TE:=λσ H Q=>ta σ H λx H1=>tb σ H1 λy H2=>r x y H2 Q
abbrev tUn(r:V->Hp->VK->Prop)(ta:TE):TE:=λσ H Q=>ta σ H λx H1=>r x H1 Q
def rI(C:Int->Int->Prop)(g:Int->Int->V):R2:=λx y H Q=>∃i j,x=.int i/\y=.int j/\C i j/\Q (g i j) H
def wA(g:Int->Int->V):R2:=λx y H Q=>∃i j,x=.int i/\y=.int j/\Q (g i j) H
def rU(g:Int->V):V->Hp->VK->Prop:=λx H Q=>∃i,x=.int i/\Q (g i) H
section
variable{X:Cx}{a b c:Expr}{ta tb tc:TE}{pos:Pos}
theorem Kk(ha:PE X a ta)(hb:PE X b tb){R:V->V->Hp->Prop}(I:Inv X p_ σ H s)
  (h:ta σ H λx H1=>tb σ H1 λy H2=>R x y H2) {f:f_->f_->Sem f_}
  (hf:∀v u s2 x y H2,Inv X p_ σ H2 s2->RelV x v->RelV y u->R x y H2->wpAny (model X.prog X.w) X.A (f v u) Q X.xe s2) :
  wpAny (model X.prog X.w) X.A (eval a X.env) (λv s₁=>wpAny (model X.prog X.w) X.A (eval b X.env) (λu s₂=>wpAny (model X.prog X.w) X.A (f v u) Q X.xe s₂) X.xe s₁) X.xe s:=by
 exact aI (ha p_ s σ H _ I h) λv s1 ⟨x,H1,I1,r1,q1⟩=>aI (hb p_ s1 σ H1 _ I1 q1) λu s2 ⟨y,H2,I2,r2,q2⟩=>hf v u s2 x y H2 I2 r1 r2 q2
theorem aW{op:Operator}{r:R2}(ho:dD X (rF op) r)(ha:PE X a ta)(hb:PE X b tb):PE X (.BinOp a op b pos) (wz r ta tb):=by
 intro p_ s σ H Q I h;exact wpAny_BinOp (Kk ha hb I h λv u s2 x y H2 I2 rx ry q=>ho p_ s2 σ H2 x y v u Q I2 rx ry q)
theorem Du{op:UnaryOp}{r:V->Hp->VK->Prop}(ho:K' X (unaryOp op) r)(ha:PE X a ta):PE X (.UnaryOp op a pos) (tUn r ta):=by
 intro p_ s σ H Q I h;exact UnaryOp_ (aI (ha p_ s σ H _ I h) λv s1 ⟨x,H1,I1,r1,q1⟩=>ho p_ s1 σ H1 x v Q I1 r1 q1)
theorem AX{f:f_->f_->Sem f_}{C:Int->Int->Prop}{g:Int->Int->Int}
  (rule:∀(i j:Int) (t u:Tok) (s:g_) (Q:f_->g_->Prop) (E:f_->g_->Prop),C i j->Q (.int (g i j) s.toks) { s with toks:=s.toks+1 }->wpAny (model X.prog X.w) X.A (f (.int i t) (.int j u)) Q E s) :
  dD X f (rI C λi j=>.int (g i j)):=by
 intro p_ s σ H x y v u Q I rx ry h;obtain⟨i,j,rfl,rfl,hc,q⟩:=h;obtain⟨t,rfl⟩:=rx;obtain⟨t',rfl⟩:=ry;exact rule i j t t' s _ _ hc ⟨.int (g i j),H,I.tok _,⟨_,rfl⟩,q⟩
theorem Sz{f:f_->f_->Sem f_}{g:Int->Int->Int}
  (rule:∀(i j:Int) (t u:Tok) (s:g_) (Q:f_->g_->Prop) (E:f_->g_->Prop),Q (.int (g i j) s.toks) { s with toks:=s.toks+1 }->wpAny (model X.prog X.w) X.A (f (.int i t) (.int j u)) Q E s) :
  dD X f (wA λi j=>.int (g i j)):=by
 intro p_ s σ H x y v u Q I rx ry h;obtain⟨i,j,rfl,rfl,q⟩:=h;obtain⟨t,rfl⟩:=rx;obtain⟨t',rfl⟩:=ry;exact rule i j t t' s _ _ ⟨.int (g i j),H,I.tok _,⟨_,rfl⟩,q⟩
theorem Kc{f:f_->f_->Sem f_}{g:Int->Int->Bool}
  (rule:∀(i j:Int) (t u:Tok) (s:g_) (Q:f_->g_->Prop) (E:f_->g_->Prop),Q (.bool (g i j)) s->wpAny (model X.prog X.w) X.A (f (.int i t) (.int j u)) Q E s) :
  dD X f (wA λi j=>.bl (g i j)):=by
 intro p_ s σ H x y v u Q I rx ry h;obtain⟨i,j,rfl,rfl,q⟩:=h;obtain⟨t,rfl⟩:=rx;obtain⟨t',rfl⟩:=ry;exact rule i j t t' s _ _ ⟨.bl (g i j),H,I,rfl,q⟩
def ahg(i j:Int):Prop:=0<j/\j<1073741824
def ahf(i j:Int):Prop:=0<=j/\j<=1000000/\i.natAbs<2^64
def Kn(i j:Int):Prop:=(-(2^64)<i/\i<2^64)\/(-(2^64)<j/\j<2^64)
theorem Kn.ok{i j:Int}(h:Kn i j):IntMulOk i j:=by
 rcases h with ⟨h1,h2⟩ | ⟨h1,h2⟩
 ·exact .of_left (intBits_le_64 h1 h2)
 ·exact .of_right (intBits_le_64 h1 h2)
theorem Yj(k:Nat):(0:Int)<=2^k:=by
 rw[two_pow_cast];exact Int.natCast_nonneg _
theorem fJ:dD X (rF .Add) (wA λi j=>.int (i+j)):=Sz λ_ _ _ _ _ _ _ q=>add_int q
theorem QX:dD X (rF .Sub) (wA λi j=>.int (i-j)):=Sz λ_ _ _ _ _ _ _ q=>sub_int q
theorem vK:dD X (rF .Mult) (rI Kn λi j=>.int (i*j)):=AX λ_ _ _ _ _ _ _ hc q=>mul_int q hc.ok
theorem lX:dD X (rF .FloorDiv) (rI ahg λi j=>.int (i/j)):=AX λi j _ _ _ _ _ hc q=>by
 have h1:=hc.1;have h2:=hc.2;exact floordiv_int om (by rw[WW i om];exact q) (.inl (PyProof.noPylong_small om))
theorem gK:dD X (rF .Mod) (rI (λ_ j=>0<j) λi j=>.int (i%j)):=AX λi j _ _ _ _ _ hc q=>by
 have h1:=hc;exact mod_int' om (by rw[Int.fmod_eq_emod_of_nonneg i om];exact q)
theorem adn:dD X (rF .Pow) (rI ahf λi j=>.int (i^j.toNat)):=AX λ_ _ _ _ _ _ _ hc q=>pow_int_small hc.1 hc.2.1 hc.2.2 q
theorem adm:dD X (rF .RShift) (rI (λ_ j=>0<=j) λi j=>.int (i/2^j.toNat)):=AX λi j _ _ _ _ _ hc q=>
 rshift_int hc (by rw[WW i (Yj _)];exact q)
theorem unI{f:f_->Sem f_}{g:Int->Int}
  (rule:∀(i:Int) (t:Tok) (s:g_) (Q:f_->g_->Prop) (E:f_->g_->Prop),Q (.int (g i) s.toks) { s with toks:=s.toks+1 }->wpAny (model X.prog X.w) X.A (f (.int i t)) Q E s) :
  K' X f (rU λi=>.int (g i)):=by
 intro p_ s σ H x v Q I rx h;obtain⟨i,rfl,q⟩:=h;obtain⟨t,rfl⟩:=rx;exact rule i t s _ _ ⟨.int (g i),H,I.tok _,⟨_,rfl⟩,q⟩
theorem C4:K' X (unaryOp .USub) (rU λi=>.int (-i)):=unI λ_ _ _ _ _ q=>neg_int q
end
def DH:V->V->Bool
 | .aH,.aH=>c_ | .aH,.int _=>c_ | .int _,.aH=>c_ | .aH,.bl _=>c_ | .bl _,.aH=>c_ | .aH,.str _=>c_ | .str _,.aH=>c_
 | .int _,.int _=>c_ | .bl _,.bl _=>c_ | .str _,.str _=>c_ | .nS _,.nS _=>c_
 | .int _,.str _=>c_ | .str _,.int _=>c_ | .bl _,.str _=>c_ | .str _,.bl _=>c_
 | _,_=>d_
def TZ:R2:=λx y H Q=>DH x y=c_/\Q (.bl (decide (x=y))) H
def rNe:R2:=λx y H Q=>DH x y=c_/\Q (.bl (!decide (x=y))) H
theorem vH{i j:Int}:decide (V.int i=V.int j)=(i == j):=by
 rw[FP];simp
theorem Rq{i j:Bool}:decide (V.bl i=V.bl j)=(i == j):=by
 rw[FP];simp
theorem Qq:decide (V.str i=V.str j)=(i == j):=by
 rw[FP];simp
theorem Qr{i j:Array UInt8}:decide (V.nS i=V.nS j)=(i.toList == j.toList):=by
 rw[FP];cases i;cases j;simp
section
variable{X:Cx}{a b c:Expr}{ta tb tc:TE}{pos:Pos}
theorem dG{k k':Bool}(I:Inv X p_ σ H s)(q:Q (.bl k) H)(e:k=k'):EP X p_ σ Q (.bool k') s:=by
 subst e;exact⟨.bl k,H,I,rfl,q⟩
theorem cH:dD X (fw .Eq) TZ:=by
 intro p_ s σ H x y v u Q I rx ry h;obtain⟨hs,q⟩:=h;cases x with
 | aH=>
  cases rx;cases y with
  | aH=>cases ry;exact PySem.EqNone.eq_none_none (dG I q (by simp))
  | bl j=>cases ry;exact PySem.EqNone.eq_none_bool (dG I q (by simp))
  | int j=>obtain⟨t',rfl⟩:=ry;exact PySem.EqNone.eq_none_int (dG I q (by simp))
  | str j=>obtain⟨t',rfl⟩:=ry;exact PySem.EqNone.eq_none_str (dG I q (by simp))
  | _=>exact absurd (show d_=c_ from hs) dO
 | bl i=>
  cases rx;cases y with
  | aH=>cases ry;exact PySem.EqNone.eq_bool_none (dG I q (by simp))
  | bl j=>cases ry;exact eq_bool (dG I q Rq)
  | str j=>obtain⟨t',rfl⟩:=ry;exact PySem.EqMixed.eq_bool_str (dG I q (by simp))
  | _=>exact absurd (show d_=c_ from hs) dO
 | int i=>
  obtain⟨t,rfl⟩:=rx;cases y with
  | aH=>cases ry;exact PySem.EqNone.eq_int_none (dG I q (by simp))
  | int j=>obtain⟨t',rfl⟩:=ry;exact eq_int (dG I q vH)
  | str j=>obtain⟨t',rfl⟩:=ry;exact PySem.EqMixed.eq_int_str (dG I q (by simp))
  | _=>exact absurd (show d_=c_ from hs) dO
 | str i=>
  obtain⟨t,rfl⟩:=rx;cases y with
  | aH=>cases ry;exact PySem.EqNone.eq_str_none (dG I q (by simp))
  | bl j=>cases ry;exact PySem.EqMixed.eq_str_bool (dG I q (by simp))
  | int j=>obtain⟨t',rfl⟩:=ry;exact PySem.EqMixed.eq_str_int (dG I q (by simp))
  | str j=>obtain⟨t',rfl⟩:=ry;exact eq_str (dG I q Qq)
  | _=>exact absurd (show d_=c_ from hs) dO
 | nS i=>
  obtain⟨t,rfl⟩:=rx;cases y with
  | nS j=>obtain⟨t',rfl⟩:=ry;exact W.eq_bytes (dG I q Qr)
  | _=>exact absurd (show d_=c_ from hs) dO
 | _=>cases y <;> exact absurd (show d_=c_ from hs) dO
theorem vU:dD X (fw .NotEq) rNe:=by
 intro p_ s σ H x y v u Q I rx ry h;obtain⟨hs,q⟩:=h;cases x with
 | aH=>
  cases rx;cases y with
  | aH=>cases ry;exact PySem.EqNone.ne_none_none (dG I q (by simp))
  | bl j=>cases ry;exact PySem.EqNone.ne_none_bool (dG I q (by simp))
  | int j=>obtain⟨t',rfl⟩:=ry;exact PySem.EqNone.ne_none_int (dG I q (by simp))
  | str j=>obtain⟨t',rfl⟩:=ry;exact PySem.EqNone.ne_none_str (dG I q (by simp))
  | _=>exact absurd (show d_=c_ from hs) dO
 | bl i=>
  cases rx;cases y with
  | aH=>cases ry;exact PySem.EqNone.ne_bool_none (dG I q (by simp))
  | bl j=>cases ry;exact ne_bool (dG I q (congrArg not Rq))
  | str j=>obtain⟨t',rfl⟩:=ry;exact PySem.EqMixed.ne_bool_str (dG I q (by simp))
  | _=>exact absurd (show d_=c_ from hs) dO
 | int i=>
  obtain⟨t,rfl⟩:=rx;cases y with
  | aH=>cases ry;exact PySem.EqNone.ne_int_none (dG I q (by simp))
  | int j=>obtain⟨t',rfl⟩:=ry;exact ne_int (dG I q (congrArg not vH))
  | str j=>obtain⟨t',rfl⟩:=ry;exact PySem.EqMixed.ne_int_str (dG I q (by simp))
  | _=>exact absurd (show d_=c_ from hs) dO
 | str i=>
  obtain⟨t,rfl⟩:=rx;cases y with
  | aH=>cases ry;exact PySem.EqNone.ne_str_none (dG I q (by simp))
  | bl j=>cases ry;exact PySem.EqMixed.ne_str_bool (dG I q (by simp))
  | int j=>obtain⟨t',rfl⟩:=ry;exact PySem.EqMixed.ne_str_int (dG I q (by simp))
  | str j=>obtain⟨t',rfl⟩:=ry;exact ne_str (dG I q (congrArg not Qq))
  | _=>exact absurd (show d_=c_ from hs) dO
 | nS i=>
  obtain⟨t,rfl⟩:=rx;cases y with
  | nS j=>obtain⟨t',rfl⟩:=ry;exact W.ne_bytes (dG I q (congrArg not Qr))
  | _=>exact absurd (show d_=c_ from hs) dO
 | _=>cases y <;> exact absurd (show d_=c_ from hs) dO
theorem Av:dD X (fw .Lt) (wA λi j=>.bl (decide (i<j))):=Kc λ_ _ _ _ _ _ _ q=>lt_int q
theorem JB:dD X (fw .LtE) (wA λi j=>.bl (decide (i<=j))):=Kc λ_ _ _ _ _ _ _ q=>le_int q
theorem vV:dD X (fw .Gt) (wA λi j=>.bl (decide (j<i))):=Kc λ_ _ _ _ _ _ _ q=>gt_int q
theorem IZ:dD X (fw .Is) (λx y H Q=>y=.aH/\Q (.bl (decide (x=.aH))) H):=by
 intro p_ s σ H x y v u Q I rx ry h;obtain⟨rfl,q⟩:=h;cases ry;refine is_none_gen (dG I q ?_)
 cases x <;> first
  | (cases rx;rfl)
  | (obtain⟨t,rfl⟩:=rx;rfl)
theorem Ih:dD X (fw .IsNot) (λx y H Q=>y=.aH/\Q (.bl (!decide (x=.aH))) H):=by
 intro p_ s σ H x y v u Q I rx ry h;obtain⟨rfl,q⟩:=h;cases ry;refine isnot_none_gen (dG I q ?_)
 cases x <;> first
  | (cases rx;rfl)
  | (obtain⟨t,rfl⟩:=rx;rfl)
theorem a7(b:Expr){op:CmpOp}(h:op≠.In:=by decide)(h2:op≠.NotIn:=by decide):zK op b=false:=by
 have e1:(op == CmpOp.In)=false:=by cases op <;> first | rfl | exact absurd rfl h
 have e2:(op == CmpOp.NotIn)=false:=by cases op <;> first | rfl | exact absurd rfl h2
 cases b <;> simp[zK,e1,e2]
theorem kU{op:CmpOp}{r:R2}(ho:dD X (fw op) r)(ha:PE X a ta)(hb:PE X b tb)(hm:zK op b=d_):PE X (.Compare a [op] [b] pos) (wz r ta tb):=by
 intro p_ s σ H Q I h;exact wpAny_Compare1 (Kk ha hb I h λv u s2 x y H2 I2 rx ry q=>ho p_ s2 σ H2 x y v u Q I2 rx ry q) hm
abbrev RA(t:TE):TT:=λσ H Q=>t σ H λx H'=>∃k,x=.bl k/\Q k H'
theorem bo{op:CmpOp}{r:R2}(ho:dD X (fw op) r)(ha:PE X a ta)(hb:PE X b tb)(hm:zK op b=d_):PT X (.Compare a [op] [b] pos) (RA (wz r ta tb)):=by
 intro p_ s σ H Q I h
 refine Xe (aI (ha p_ s σ H _ I h) λv s1 ⟨x,H1,I1,r1,q1⟩=>aI (hb p_ s1 σ H1 _ I1 q1) λu s2 ⟨y,H2,I2,r2,q2⟩=>
  aI (ho p_ s2 σ H2 x y v u _ I2 r1 r2 q2) λc s3 ⟨z,H3,I3,r3,k,e,q3⟩=>?_) hm
 subst e;cases r3;exact ni ⟨H3,I3,q3⟩
def QE(r r':R2)(ta tb tc:TE):TE:=λσ H Q=>ta σ H λx H1=>tb σ H1 λy H2=>r x y H2 λz H3=>∃k,z=.bl k/\
 (if k=c_ then tc σ H3 λw' H4=>r' y w' H4 Q else Q (.bl d_) H3)
theorem aak{op wK:CmpOp}{r r':R2}(ho:dD X (fw op) r)(pF:dD X (fw wK) r')(ha:PE X a ta)(hb:PE X b tb)(hc:PE X c tc)
  (hm:lastMarks [op,wK] [b,c]=false:=by with_unfolding_all rfl):PE X (.Compare a [op,wK] [b,c] pos) (QE r r' ta tb tc):=by
 intro p_ s σ H Q I h
 refine Compare_chain (aI (ha p_ s σ H _ I h) λv s1 ⟨x,H1,I1,r1,q1⟩=>chain_link (aI (hb p_ s1 σ H1 _ I1 q1) λu s2 ⟨y,H2,I2,r2,q2⟩=>
  aI (ho p_ s2 σ H2 x y v u _ I2 r1 r2 q2) λd s3 ⟨z,H3,I3,r3,k,e,q3⟩=>?_)) hm
 subst e;cases r3;refine ni ?_;cases k with
 | false=>exact ite_ff ⟨.bl d_,H3,I3,rfl,q3⟩
 | true=>exact ite_tt (chain_last (aI (hc p_ s3 σ H3 _ I3 q3) λw' s4 ⟨z',H4,I4,r4,q4⟩=>pF p_ s4 σ H4 y z' u w' Q I4 r2 r4 q4))
theorem aae{op wK:CmpOp}{r r':R2}(ho:dD X (fw op) r)(pF:dD X (fw wK) r')(ha:PE X a ta)(hb:PE X b tb)(hc:PE X c tc)
  (hm:lastMarks [op,wK] [b,c]=false:=by with_unfolding_all rfl):PT X (.Compare a [op,wK] [b,c] pos) (RA (QE r r' ta tb tc)):=by
 intro p_ s σ H Q I h
 refine isTrue_chain (aI (ha p_ s σ H _ I h) λv s1 ⟨x,H1,I1,r1,q1⟩=>test_link (aI (hb p_ s1 σ H1 _ I1 q1) λu s2 ⟨y,H2,I2,r2,q2⟩=>
  aI (ho p_ s2 σ H2 x y v u _ I2 r1 r2 q2) λd s3 ⟨z,H3,I3,r3,k,e,q3⟩=>?_)) hm
 subst e;cases r3;refine ni ?_;cases k with
 | false=>
  obtain⟨k',e',q'⟩:=q3;cases e';exact ite_ff ⟨H3,I3,q'⟩
 | true=>
  refine ite_tt (test_last (aI (hc p_ s3 σ H3 _ I3 q3) λw' s4 ⟨z',H4,I4,r4,q4⟩=>aI (pF p_ s4 σ H4 y z' u w' _ I4 r2 r4 q4) λd' s5 ⟨z2,H5,I5,r5,k2,e2,q5⟩=>?_));subst e2;cases r5;exact ni ⟨H5,I5,q5⟩
theorem Ar:(a9:Nat)<2^63:=by rw[eM];decide
theorem vals1(r:Vals [x] us):∃u,us=[u]/\RelV x u:=by
 cases r with
 | cons r1 r2=>cases r2;exact⟨_,rfl,r1⟩
theorem vals2(r:Vals [x,y] us):∃u w',us=[u,w']/\RelV x u/\RelV y w':=by
 cases r with
 | cons r1 r2=>
  cases r2 with
  | cons r3 r4=>cases r4;exact⟨_,_,rfl,r1,r3⟩
end
structure v9(h:j_)(x dx C:e_)(mA:Str->Option f_):Prop where
 obj:h.get? x=a_ (W.instObj C dx)
 ns:h.Ns1 dx mA
 ne:dx≠x
theorem Zr{h:j_}{dx:e_}{mA:Str->Option f_}(n:h.Ns1 dx mA):∃od,h.get? dx=a_ od/\∀name,W.lookIn name od=a_ (mA name):=by
 obtain⟨o,es,ep,ho,hd,hk,_,hm⟩:=n;refine⟨o,ho,λname=>?_⟩;have e:=hm name;unfold nsFind findBy at e;rw[<-Array.find?_toList]at e;unfold W.lookIn;rw[hd];dsimp only
 split
 ·rename_i y q
  rw[q]at e;exact congrArg a_ e
 ·rename_i q
  rw[q]at e
  have a:es.toList.any (·.refKey)=false:=by
   rw[List.any_eq_false];intro y hy;obtain⟨z,t,ahW⟩:=hk y (Array.mem_toList_iff.mp hy);simp[DictEntry.refKey,ahW]
  have a':¬es.toList.any (·.refKey)=true:=by rw[a];exact dO
  rw[if_neg a'];exact congrArg a_ e
theorem v9.look{mA:Str->Option f_}(I:v9 h x dx C mA):∃od,D_ h x (W.instObj C dx) C (a_ od)/\∀name,W.lookIn name od=a_ (mA name):=
 let ⟨od,ho,hl⟩:=Zr I.ns
 ⟨od,⟨I.obj,rfl,rfl,ho⟩,hl⟩
section
variable{prog:l_}{w:k_}{A:h_}{E:f_->g_->Prop}{s:g_}{K:u_}{x dx C f:e_}{mA:Str->Option f_}{name:Str}{v:f_}
theorem get_map{expr:Bool}(X:K.In s.heap)(I:v9 s.heap x dx C mA)(hg:W.plainGet K C name=c_)(hh:F_ K C=c_)
  (ha:w_ K (.ref C) name=a_ b_) (hv:mA name=a_ v) (EV:W.handedIn v=c_) (h:Q v { s with toks:=s.toks+1 }) :
  wpAny (model prog w) A (getAttr (.ref x) name expr) Q E s:=by
 obtain⟨od,J,hl⟩:=I.look;exact W.get_value X J (W.plainGet_of hg).1 (W.findObj_own hh ha rfl (by rw[hl,hv])) EV h
theorem aaV{pl:Sem Bool}{Q:f_×List f_->g_->Prop}(X:K.In s.heap)(I:v9 s.heap x dx C mA)(hg:W.plainGet K C name=c_)
  (hf:w_ K (.ref C) name=a_ (a_ (.ref f))) (ht:W.isFn K (.ref f)=c_) (hv:mA name=b_) (h:Q (.ref f,[.ref x]) s) :
  wpAny (model prog w) A (z0 (.ref x) name pl) Q E s:=by
 obtain⟨od,J,hl⟩:=I.look;exact W.method_fn X J (W.plainGet_of hg).1 (W.plainGet_of hg).2 hf (beq_iff_eq.mp ht) (by show (W.lookIn name od).map (·.isSome)=a_ d_;rw[hl,hv];rfl) h
theorem abA{Q:Unit->g_->Prop}(X:K.In s.heap)(I:v9 s.heap x dx C mA)
  (hs:w_ K (.ref C) "__setattr__" = a_ (a_ (.builtin "object.__setattr__"))) (hp:W.plainOver K C=c_) (ht:W.takerIn K C name=a_ b_) (hh:F_ K C=c_)
  (hw:PySem.Within mA ns) (hsz:ns.length<=a9)
  (h:∀h',v9 h' x dx C (λy=>if y=name then a_ v else mA y)->kG dx s.heap h'->Q () { s with heap:=h',toks:=s.toks+2 }) :
  wpAny (model prog w) A (setAttr (.ref x) name v) Q E s:=by
 obtain⟨od,J,hl⟩:=I.look;refine W.set_plain X J hs (W.osa_open (s:={ s with toks:=s.toks+1 }) (r:=b_) X J hp ht λb=>?_);obtain⟨cd,hc,xk⟩:=W.any_some hh;have hx:s.heap.get? x=a_ ⟨.ref C,a_ dx,.plain,#[]⟩:=I.obj;refine aj (aM (aj (aj (wpAny_loadPart hx (aj (W.Looks.here (s:={ s with toks:=s.toks+1 }) (W.looks_clsIn X hc) ?_))))));rw[xk];refine aM (a:=a_ dx) (aj (aM (aj (wpAny_nsSet1 (s:={ s with toks:=s.toks+1 }) I.ns λh' Bj pE=>?_))));obtain⟨oD,esD,epD,hoD,hdD,hcD⟩:=Bj.count (PySem.Within.cons name v hw);exact aj (wpAny_lookBehind hoD (by rw[hdD];exact pastItsLine_dict (cx hcD (by rw[List.length_cons];omega))) (aM (h _ ⟨(pE.2 _ (cB I.ne)).trans I.obj,Bj,I.ne⟩ pE)))
theorem aaM{R:Result->g_->Prop}{kw:List (Str×f_)}(X:K.In s.heap)(hm:W.makesIn K C=c_)
  (hi:w_ K (.ref C) "__init__" = a_ (a_ (.ref f))) (hf:W.typeIn K (.ref f)=a_ (.type "function"))
  (h:codeAny (model prog w) (A.under (.builtin "type.__call__" ⟨.ref C::vs,kw⟩)) (.call (.ref f) ⟨.ref (s.heap.objs.size+1)::vs,kw⟩) (W.InitBack (s.heap.objs.size+1) R)
   {s with heap:=(s.heap.push W.emptyDict).push (W.instObj C s.heap.objs.size) }) :
  codeAny (model prog w) A (.call (.ref C) ⟨vs,kw⟩) R s:=by
 obtain⟨hh,g,d,t,os⟩:=s;exact W.make_core (W.makes_of X hm) (W.looks_findIn X hi) (λself=>W.bind_fn X self hf) (.inl rfl) h
end
def aQ(f:Str)(v:V):List (Str×V)->List (Str×V)
 | []=>[(f,v)]
 | (g,x)::r=>if g=f then (g,v)::r else (g,x)::aQ f v r
theorem eG(f g:Str)(v:V):∀fs:List (Str×V),(aQ f v fs).lookup g=if g=f then a_ v else fs.lookup g
 | []=>by
  show List.lookup g [(f,v)]=_
  by_cases h:g=f
  ·have hb:=beq_iff_eq.mpr h;simp only[List.lookup,hb,if_pos h]
  ·have hb:=beq_eq_false_iff_ne.mpr h;simp only[List.lookup,hb,if_neg h]
 | (k,x)::r=>by
  have ih:=eG f g v r;rw[show aQ f v ((k,x)::r)=(if k=f then (k,v)::r else (k,x)::aQ f v r) from rfl]
  by_cases hk:k=f
  ·rw[if_pos hk]
   by_cases h:g=k
   ·have hb:=beq_iff_eq.mpr h;simp only[List.lookup,hb,if_pos (h.trans hk)]
   ·have hb:=beq_eq_false_iff_ne.mpr h;simp only[List.lookup,hb,if_neg λe:g=f=>h (e.trans hk.symm)]
  ·rw[if_neg hk]
   by_cases h:g=k
   ·have hb:=beq_iff_eq.mpr h;simp only[List.lookup,hb,if_neg λe:g=f=>hk (h.symm.trans e)]
   ·have hb:=beq_eq_false_iff_ne.mpr h;simp only[List.lookup,hb];exact ih
theorem Gx(f:Str)(v:V):∀fs:List (Str×V),f∈(aQ f v fs).map (·.1)/\∀g,g∈fs.map (·.1)->g∈(aQ f v fs).map (·.1)
 | []=>⟨by simp[aQ],λg h=>by simp at h⟩
 | (k,x)::r=>by
  obtain⟨i1,i2⟩:=Gx f v r;rw[show aQ f v ((k,x)::r)=(if k=f then (k,v)::r else (k,x)::aQ f v r) from rfl]
  by_cases hk:k=f
  ·rw[if_pos hk];subst hk;exact⟨by simp,λg h=>by simpa using h⟩
  ·rw[if_neg hk];refine⟨?_,λg h=>?_⟩
   ·rw[List.map_cons];exact List.mem_cons_of_mem _ i1
   ·rw[List.map_cons]at h ⊢;rcases List.mem_cons.mp h with e | e
    ·exact List.mem_cons.mpr (.inl e)
    ·exact List.mem_cons_of_mem _ (i2 g e)
theorem pV(f:Str)(v:V):∀fs:List (Str×V),(aQ f v fs).length<=fs.length+1
 | []=>by simp[aQ]
 | (k,x)::r=>by
  have ih:=pV f v r;rw[show aQ f v ((k,x)::r)=(if k=f then (k,v)::r else (k,x)::aQ f v r) from rfl]
  by_cases hk:k=f
  ·rw[if_pos hk,List.length_cons,List.length_cons];omega
  ·rw[if_neg hk,List.length_cons,List.length_cons];omega
theorem i5.some_of{o:Option f_}(r:i5 (a_ v) o):∃u,o=a_ u/\RelV v u:=by
 cases o with
 | none=>exact(show False from r).elim
 | some u=>exact⟨u,rfl,r⟩
theorem i5.none_of{o:Option f_}(r:i5 b_ o):o=none:=by
 cases o with
 | none=>rfl
 | some u=>exact(show False from r).elim
theorem Zz(r:RelV v u):W.handedIn u=true:=by
 cases v with
 | aH=>cases (show u=oo from r);rfl
 | bl b=>cases (show u=tF b from r);rfl
 | int i=>obtain⟨t,e⟩:=(show ∃t,u=eX i t from r);cases e;rfl
 | str x=>obtain⟨t,e⟩:=(show ∃t,u=vw x t from r);cases e;rfl
 | nS b=>obtain⟨t,e⟩:=(show ∃t,u=Value.bytes b t from r);cases e;rfl
 | sA b=>obtain⟨t,e⟩:=(show ∃t,u=NH b t from r);cases e;rfl
 | ref a=>cases (show u=cR a from r);rfl
 | ty n=>cases (show u=pY n from r);rfl
section
variable{P:l_}{w:k_}{H H':Hp}{h h':j_}{a C dx:e_}{fs lM:List (Str×V)}
theorem CZ(aD:dU P w H h)(e:H a=a_ (.ins C dx fs)):∃mA,v9 h a dx C mA/\(∀f,i5 (fs.lookup f) (mA f))/\PySem.Within mA (fs.map (·.1))/\fs.length<=1000/\H dx=a_ (.own a):=by
 obtain⟨d,z,ne,ob,mA,n,r,q⟩:=(show de P w H h a (.ins C dx fs) from aD a _ e);exact⟨mA,⟨ob,n,ne⟩,r,q,z,d⟩
end
structure fq(K:u_)(C:e_):Prop where
 pg:W.plainGet K C Str.empty=c_
 hd:F_ K C=c_
 po:W.plainOver K C=c_
 sa:w_ K (.ref C) "__setattr__" = a_ (a_ (.builtin "object.__setattr__"))
theorem fq.get{K:u_}(c:fq K C)(f:Str):W.plainGet K C f=true:=c.pg
def cV(K:u_)(C:e_)(f:Str):Prop:=w_ K (.ref C) f=a_ b_
theorem cV.aeH{K:u_}(n:cV K C f):W.takerIn K C f=a_ none:=by
 unfold W.takerIn;rw[show w_ K (.ref C) f=a_ b_ from n];rfl
structure Meth(K:u_)(C:e_)(m:Str)(f:e_):Prop where
 at_:w_ K (.ref C) m=a_ (a_ (.ref f))
 fn:W.isFn K (.ref f)=c_
 kp:x_ K (.ref f)=c_
section
variable{X:Cx}{p_:List (e_×Obj)}{σ:St}{H:Hp}{s:g_}{a C dx:e_}{fs:List (Str×V)}{f:Str}{v:V}{A:h_}{E:f_->g_->Prop}
theorem NY{b:Bool}(I:Inv X p_ σ H s)(e:H a=a_ (.ins C dx fs))(c:fq X.K C)(n:cV X.K C f)(l:fs.lookup f=a_ v)
  (h:∀u s',Inv X p_ σ H s'->RelV v u->Q u s'):wpAny (model X.prog X.w) A (getAttr (.ref a) f b) Q E s:=by
 obtain⟨mA,O,r,_,_,_⟩:=CZ I.aD e;obtain⟨u,hu,ru⟩:=i5.some_of (v:=v) (o:=mA f) (by rw[<-l];exact r f);exact get_map I.eD O (c.get f) c.hd n hu (Zz ru) (h u _ (I.tok _) ru)
theorem Gg{pl:Sem Bool}{Q:f_×List f_->g_->Prop}(I:Inv X p_ σ H s)(e:H a=a_ (.ins C dx fs))(c:fq X.K C)(k:Meth X.K C m g)(l:fs.lookup m=b_)
  (h:Q (.ref g,[.ref a]) s):wpAny (model X.prog X.w) A (z0 (.ref a) m pl) Q E s:=by
 obtain⟨mA,O,r,_,_,_⟩:=CZ I.aD e;have hn:=i5.none_of (by rw[<-l];exact r m);exact aaV I.eD O (c.get m) k.at_ k.fn hn h
theorem NM{Q:Unit->g_->Prop}(I:Inv X p_ σ H s)(e:H a=a_ (.ins C dx fs))(c:fq X.K C)(n:cV X.K C f)(hl:fs.length<1000)(ry:RelV y u)
  (h:∀s',Inv X p_ σ (upd H a (.ins C dx (aQ f y fs))) s'->Q () s'):wpAny (model X.prog X.w) A (setAttr (.ref a) f u) Q E s:=by
 obtain⟨mA,O,r,wi,_,ho⟩:=CZ I.aD e;have hz:(fs.map (·.1)).length<=a9:=by rw[List.length_map,eM];omega
 refine abA I.eD O c.sa c.po n.aeH c.hd wi hz λh' O' sb=>h _ ?_;have hd:∃o,h'.get? dx=a_ o:=let ⟨o,_,_,e',_⟩:=O'.ns;⟨o,e'⟩
 refine I.write (x:=a) (e:=dx) (by rw[e];exact lR) (.inr ho) (λb q hb z=>(sb.2 b hb).trans z) hd ⟨by rw[ag O.ne];exact ho,?_,O.ne,O'.obj,_,O'.ns,λg=>?_,λg hg=>?_⟩
 ·have:=pV f y fs;omega
 ·show i5 ((aQ f y fs).lookup g) (if g=f then a_ u else mA g);rw[eG]
  by_cases q:g=f
  ·rw[if_pos q,if_pos q];exact ry
  ·rw[if_neg q,if_neg q];exact r g
 ·by_cases q:g=f
  ·rw[q];exact(Gx f y fs).1
  ·refine(Gx f y fs).2 g (wi g λz=>hg ?_);show (if g=f then a_ u else mA g)=b_;rw[if_neg q];exact z
theorem Inv.made(I:Inv X p_ σ H s):Inv X p_ σ (upd (upd H s.heap.objs.size (.own (s.heap.objs.size+1))) (s.heap.objs.size+1) (.ins C s.heap.objs.size []))
  {s with heap:=(s.heap.push W.emptyDict).push (W.instObj C s.heap.objs.size) }:=by
 have e1:(s.heap.push W.emptyDict).get? s.heap.objs.size=a_ W.emptyDict:=dw s.heap rfl
 have e2:((s.heap.push W.emptyDict).push (W.instObj C s.heap.objs.size)).get? (s.heap.objs.size+1)=a_ (W.instObj C s.heap.objs.size):=by
  have:=dw (s.heap.push W.emptyDict) (o:=W.instObj C s.heap.objs.size) rfl;rwa[lO]at this
 have e3:(s.heap.push W.emptyDict).Ns s.heap.objs.size (λ_=>b_):=⟨W.emptyDict,#[],_,e1,rfl,(λe he=>absurd he (by simp)),λ_=>rfl⟩;have I1:=I.laid (a:=s.heap.objs.size) (o:=.own (s.heap.objs.size+1)) (h':=s.heap.push W.emptyDict) (t':=s.toks) (λb u q=>aY _ q) (aw _) ⟨_,e1⟩;refine I1.laid (a:=s.heap.objs.size+1) (o:=.ins C s.heap.objs.size []) (t':=s.toks) (λb u q=>aY _ q) (nz (lO _ _)) ?_;have ne:s.heap.objs.size≠s.heap.objs.size+1:=cI (zH _);refine⟨by rw[ag ne,ao],aP _,ne,e2,λ_=>b_,(Heap.Ns1.of_empty e3).at λo q=>aY _ q,λ_=>lR,λy hy=>absurd rfl hy⟩
theorem acJ{w:k_}{env:Env}(hb:zL e f env (eval e env)=eval e env)
  (h:wpAny (model prog w) A (eval e env) (λo s₁=>wpAny (model prog w) A (getAttr o f c_) Q E s₁) E s):wpAny (model prog w) A (eval (.Attribute e f pos) env) Q E s:=
 Attribute_any_ h (by rw[arm_eval_Attribute,hb])
end
def J1(K:u_)(ta:TE)(f:Str):TE:=λσ H Q=>ta σ H λx H1=>∃a C dx fs v,x=.ref a/\H1 a=a_ (.ins C dx fs)/\fq K C/\cV K C f/\fs.lookup f=a_ v/\Q v H1
def Sv(K:u_)(ta tv:TE)(f:Str):TS:=λD σ H=>tv σ H λy H1=>ta σ H1 λx H2=>∃a C dx fs,x=.ref a/\H2 a=a_ (.ins C dx fs)/\fq K C/\cV K C f/\fs.length<1000/\
 D.nx σ (upd H2 a (.ins C dx (aQ f y fs)))
def S7(X:Cx)(op:Operator)(rd:V->V->Hp->VK->Prop):Prop:=
 ∀(p_:List (e_×Obj)) (s:g_) (σ:St) (H:Hp) (x y:V) (u v:f_) (Q:VK),Inv X p_ σ H s->RelV x u->RelV y v->rd x y H Q->wpAny (model X.prog X.w) X.A (inplaceOp op u v) (EP X p_ σ Q) X.xe s
def abN(K:u_)(ta tv:TE)(rd:V->V->Hp->VK->Prop)(f:Str):TS:=λD σ H=>ta σ H λx H1=>∃a C dx fs v,x=.ref a/\H1 a=a_ (.ins C dx fs)/\fq K C/\cV K C f/\fs.lookup f=a_ v/\
 tv σ H1 λy H2=>rd v y H2 λz H3=>∃BM lM,H3 a=a_ (.ins C BM lM)/\lM.length<1000/\D.nx σ (upd H3 a (.ins C BM (aQ f z lM)))
section
variable{X:Cx}{o e value:Expr}{f:Str}{pos pos' AO:Pos}{ta tv:TE}
theorem cc(he:PE X e ta)(hb:zL e f X.env (eval e X.env)=eval e X.env):PE X (.Attribute e f pos) (J1 X.K ta f):=by
 intro p_ s σ H Q I h;refine acJ hb (aI (he p_ s σ H _ I h) λu s1 ⟨x,H1,I1,rx,a,C,dx,fs,v,ex,ea,c,n,l,q⟩=>?_);subst ex;obtain rfl:u=cR a:=rx;exact NY I1 ea c n l λu' s2 I2 ru=>⟨v,H1,I2,ru,q⟩
theorem hZ(ha:PE X o ta)(hv:PE X value tv)(hs:Cj value (a_ (.Attribute o f pos')) pos.line X.env=pure d_):PS X (.Assign [.Attribute o f pos'] value pos) (Sv X.K ta tv f):=by
 intro p_ s σ H D I h;refine plainObj_wpAny_Assign_Attribute (aI (hv p_ s σ H _ I h) λu s1 ⟨y,H1,I1,ry,q⟩=>aI (ha p_ s1 σ H1 _ I1 q) λov s2 ⟨x,H2,I2,rx,a,C,dx,fs,ex,ea,c,n,l,q2⟩=>?_) hs;subst ex;obtain rfl:ov=cR a:=rx;exact NM I2 ea c n l ry λs3 I3=>⟨σ,_,I3,q2⟩
theorem Y6{op:Operator}{rd:V->V->Hp->VK->Prop}(ha:PE X o ta)(hv:PE X value tv)(hop:S7 X op rd):PS X (.AugAssign (.Attribute o f AO) op value pos) (abN X.K ta tv rd f):=by
 intro p_ s σ H D I h;refine wpAny_AugAssign_AttributeAny (aI (ha p_ s σ H _ I h) λov s1 ⟨x,H1,I1,rx,a,C,dx,fs,v,ex,ea,c,n,l,q⟩=>?_);subst ex;obtain rfl:ov=cR a:=rx;exact NY I1 ea c n l λu s2 I2 ru=>aI (hv p_ s2 σ H1 _ I2 q) λw3 s3 ⟨y,H2,I3,ry,q3⟩=>aI (hop p_ s3 σ H2 v y u w3 _ I3 ru ry q3) λw4 s4 ⟨z,H3,I4,rz,BM,lM,ea',l',q4⟩=>NM I4 ea' c n l' rz λs5 I5=>⟨σ,_,I5,q4⟩
def agX:V->V->Hp->VK->Prop:=λx y H Q=>∃i j,x=.int i/\y=.int j/\Q (.int (i+j)) H
theorem adV:S7 X .Add agX:=by
 rintro p_ s σ H x y u v Q I rx ry ⟨i,j,rfl,rfl,q⟩;obtain⟨t,rfl⟩:=(show ∃t,u=eX i t from rx);obtain⟨t',rfl⟩:=(show ∃t',v=eX j t' from ry);exact PyProof.Rows.iadd_int ⟨.int (i+j),H,I.tok _,⟨_,rfl⟩,q⟩
end
section
variable{X:Cx}{p_:List (e_×Obj)}{σ:St}{H:Hp}{s:g_}{A:h_}{E:f_->g_->Prop}{Q:f_->g_->Prop}{c:f_}{b:Bool}
inductive iO (K:u_) (H:Hp):V->f_->Prop where
 | aH:iO K H .aH (.type "NoneType")
 | bl (x:Bool):iO K H (.bl x) (.type "bool")
 | int (i:Int):iO K H (.int i) (.type "int")
 | str (x:Str):iO K H (.str x) (.type "str")
 | sA (x:UInt64):iO K H (.sA x) (.type "float")
 | lst {a:e_} {xs:List V} (e:H a=a_ (.lst xs)):iO K H (.ref a) (.type "list")
 | lC {a:e_} {o:Obj} {xs:List V} (e:H a=a_ (.lC o (.lst xs))):iO K H (.ref a) (.type "list")
 | tup {a:e_} {xs:List V} (e:H a=a_ (.tup xs)):iO K H (.ref a) (.type "tuple")
 | dK {a:e_} {kvs:List (Key×V)} (e:H a=a_ (.dK kvs)):iO K H (.ref a) (.type "dict")
 | dT {a:e_} {kvs:List (List Key×V)} (e:H a=a_ (.dT kvs)):iO K H (.ref a) (.type "dict")
 | ins {a C dx:e_} {fs:List (Str×V)} (e:H a=a_ (.ins C dx fs)) (cl:fq K C) (ha:w_ K (.ref C) "__class__" = a_ (a_ (.builtin "object.__class__")))
   (hn:W.specialIn K (.builtin "object.__class__") "__get__" = a_ (a_ (.builtin "getset_descriptor.__get__"))) (EX:W.takesIn K (.builtin "object.__class__")=a_ c_)
   (hm:A_ K C (.type "object")=a_ c_):iO K H (.ref a) (.ref C)
theorem Zu{u t:f_}(I:Inv X p_ σ H s)(rx:RelV x u)(ty:iO X.K H x t)(e:v_ X.K t c=a_ b)(h:∀tk,Q (.bool b) { s with toks:=tk }) :
  wpAny (model X.prog X.w) A (call (.builtin "isinstance") [u,c]) Q E s:=by
 cases ty with
 | aH=>cases (show u=oo from rx);exact E_ W.kitx_none I.eD lR e (λz=>nomatch z) h
 | bl y=>cases (show u=tF y from rx);exact E_ W.kitx_bool I.eD lR e (λz=>nomatch z) h
 | int i=>obtain⟨t,q⟩:=(show ∃t,u=eX i t from rx);cases q;exact E_ W.kitx_int I.eD lR e (λz=>nomatch z) h
 | str y=>obtain⟨t,q⟩:=(show ∃t,u=vw y t from rx);cases q;exact E_ W.kitx_str I.eD lR e (λz=>nomatch z) h
 | sA y=>obtain⟨t,q⟩:=(show ∃t,u=NH y t from rx);cases q;exact E_ W.kitx_float I.eD lR e (λz=>nomatch z) h
 | @lst a xs ea=>
  cases (show u=cR a from rx);obtain⟨_,_,n,_,h1⟩:=(show de X.prog X.w H s.heap a (.lst xs) from I.aD a _ ea);exact E_ W.kitx_list I.eD ⟨_,h1,rfl⟩ e (λz=>nomatch z) h
 | @lC a ob xs ea=>
  cases (show u=cR a from rx);obtain⟨_,_,_,n,_,h1⟩:=(show de X.prog X.w H s.heap a (.lC ob (.lst xs)) from I.aD a _ ea);exact E_ W.kitx_list I.eD ⟨_,h1,rfl⟩ e (λz=>nomatch z) h
 | @tup a xs ea=>
  cases (show u=cR a from rx);obtain⟨_,_,_,p⟩:=(show de X.prog X.w H s.heap a (.tup xs) from I.aD a _ ea);obtain⟨o,h1,h2,_⟩:=p;exact E_ W.kitx_tuple I.eD ⟨o,h1,h2⟩ e (λz=>nomatch z) h
 | @dK a kvs ea=>
  cases (show u=cR a from rx);obtain⟨_,_,vs,_,p⟩:=(show de X.prog X.w H s.heap a (.dK kvs) from I.aD a _ ea);obtain⟨o,es,ep,h1,h2,_⟩:=p;exact E_ W.kitx_dict I.eD ⟨o,h1,h2.1⟩ e (λz=>nomatch z) h
 | @dT a kvs ea=>
  cases (show u=cR a from rx);obtain⟨_,_,xs,_,o,es,ep,h1,h2,_⟩:=(show de X.prog X.w H s.heap a (.dT kvs) from I.aD a _ ea);exact E_ W.kitx_dict I.eD ⟨o,h1,h2.1⟩ e (λz=>nomatch z) h
 | @ins a C dx fs ea cl ha hn EX hm=>
  cases (show u=cR a from rx);obtain⟨mA,O,_⟩:=CZ I.aD ea;obtain⟨od,J,_⟩:=O.look;exact E_ (W.kitx_own (cl.get _) cl.hd ha hn EX hm) I.eD J e (λz=>nomatch z) h
end
structure eJ(k:Nat)(A:h_):Prop where
 hd:A.handled=b_
 dp:A.depth+3*k+5<BZ
 un:A.units+16*k+200<cLine
theorem eJ.mono{j k:Nat}(r:eJ k A)(h:j<=k):eJ j A:=⟨r.hd,by have:=r.dp;omega,by have:=r.un;omega⟩
theorem eJ.deeper{k:Nat}(r:eJ (k+1) A)(env:Env):eJ k (A.deeper env):=
 ⟨r.hd,by have:=r.dp;show A.depth+1+3*k+5<_;omega,by have:=r.un;show A.units+3+16*k+200<_;omega⟩
theorem YJ{A:h_}{C:e_}{us:List f_}{kw:List (Str×f_)}:(A.under (.builtin "type.__call__" ⟨.ref C::us,kw⟩)).depth=A.depth+1:=by
 first | rfl | simp[NB,Code.weight,Code.isCreation,Code.isGuard,Code.isCaller,Code.frames,Code.isFrame,guardIds]
theorem YI{A:h_}{C:e_}{us:List f_}{kw:List (Str×f_)}:(A.under (.builtin "type.__call__" ⟨.ref C::us,kw⟩)).units=A.units+1:=by
 first | rfl | simp[NB,Code.cUnits,Code.frames,Code.isFrame]
theorem eJ.make{k:Nat}(r:eJ (k+1) A)(C:e_)(us:List f_)(kw:List (Str×f_)):eJ k (A.under (.builtin "type.__call__" ⟨.ref C::us,kw⟩)):=
 ⟨r.hd,by have:=r.dp;rw[YJ];omega,by have:=r.un;rw[YI];omega⟩
theorem eJ.depth{k:Nat}(r:eJ k A):A.depth<BZ:=by have:=r.dp;omega
abbrev Sl:TA:=λ_ H Q=>Q [] H
abbrev aeP(ta:TE)(tr:TA):TA:=λσ H Q=>ta σ H λx H1=>tr σ H1 λxs H2=>Q (x::xs) H2
section
variable{X:Cx}{e:Expr}{es:List Expr}{te:TE}{t:TA}{pos:Pos}
theorem af:PA X [] Sl:=λ_ _ _ _ H Q I h=>zG ⟨[],H,I,.nil,h⟩
theorem ab(ha:PE X e te)(hr:PA X es t)(hs:cA (e::es) X.env=(d_,eval e X.env)::cA es X.env:=by rfl):PA X (e::es) (aeP te t):=by
 intro pos p_ s σ H Q I h;rw[hs];show wpAny _ _ (spliced ((d_,eval e X.env)::backTo pos (cA es X.env))) _ _ s;exact vj (aI (ha p_ s σ H _ I h) λu s1 ⟨x,H1,I1,r1,q1⟩=>aI (hr pos p_ s1 σ H1 _ I1 q1) λus s2 ⟨xs,H2,I2,r2,q2⟩=>⟨x::xs,H2,I2,.cons r1 r2,q2⟩)
def agF(t:TA):TE:=λσ H Q=>t σ H λxs H1=>xs.length<=a9/\∀p,H1 p=b_->Q (.ref p) (upd H1 p (.tup xs))
def agJ(t:TA):TE:=λσ H Q=>t σ H λxs H1=>xs.length<=a9/\∀p,H1 p=b_->Q (.ref p) (upd H1 p (.lst xs))
theorem iH{x1}(h:PA X es t):PE X (.Tuple es x1 pos) (agF t):=by
 intro p_ s σ H Q I hq;refine wpAny_Tuple_spliced (aI (h pos p_ s σ H _ I hq) λus s1 ⟨xs,H1,I1,r,z,q⟩=>⟨by rw[<-r.length];exact z,?_⟩);have hf:=I1.aD.fresh (aw _);refine⟨.ref s1.heap.objs.size,upd H1 s1.heap.objs.size (.tup xs),I1.laid (t':=s1.toks) (λb u e=>aY _ e) (aw _) ?_,rfl,q _ hf⟩;exact⟨z,us,r,⟨_,dw _ rfl,rfl,_,rfl⟩⟩
theorem dy(h:PA X es t):PE X (.List es pos) (agJ t):=by
 intro p_ s σ H Q I hq;refine wpAny_List_spliced (aI (h pos p_ s σ H _ I hq) λus s1 ⟨xs,H1,I1,r,z,q⟩=>⟨by rw[<-r.length];exact z,?_⟩);have hf:=I1.aD.fresh (aw _);refine⟨.ref s1.heap.objs.size,upd H1 s1.heap.objs.size (.lst xs),I1.laid (t':=s1.toks) (λb u e=>aY _ e) (aw _) ?_,rfl,q _ hf⟩;exact⟨z,us,0,r,dw _ rfl⟩
end
abbrev Sp:=List V->Hp->VK->XK->Prop
abbrev pe:=List Env->Hp->g_->XK->f_->g_->Prop
structure we(P:l_)(w:k_)(K:u_)(mg:Str->Option f_)(base:j_)(A:h_)(outer:List Env)(s:g_)(H:Hp):Prop where
 frames:A.frames=a_ outer
 mod:Mod K mg base
 bs:∀b o,base.get? b=a_ o->s.heap.get? b=a_ o/\H b=b_
 mG:base.objs.size<=s.heap.objs.size
 lj:s.heap.FunFrames base outer
 sv:∀b∈oU outer,H b=b_
 aD:dU P w H s.heap
 bare:AllBare s.gens
def CE(outer:List Env)(P:l_)(w:k_)(H:Hp)(s:g_)(Q:VK)(u:f_)(s':g_):Prop:=
 ∃v H',s'.os=s.os/\AllBare s'.gens/\Un (oU outer) [] H H' s.heap s'.heap/\dU P w H' s'.heap/\RelV v u/\Q v H'
def CR(CX:pe)(outer:List Env)(P:l_)(w:k_)(H:Hp)(s:g_)(Q:VK)(E:XK)(r:Result)(s':g_):Prop:=
 match r with
 | .ok (.ret u)=>CE outer P w H s Q u s'
 | .ok _=>False
 | .error e=>CX outer H s E e s'
structure ax(P:l_)(w:k_)(K:u_)(mg:Str->Option f_)(base:j_)(CX:pe)(k:Nat)(f:e_)(fd:lW)(ps:List Str)(sp:Sp):Prop where
 len:∀vs H Q E,sp vs H Q E->vs.length=ps.length
 run:∀(A:h_) (outer:List Env) (s:g_) (H:Hp) (args:Args) (us:List f_) (vs:List V) (Q:VK) (E:XK),eJ k A->we P w K mg base A outer s H->BindsTo s fd args (ps.zip us)->Vals vs us->sp vs H Q E->
  codeAny (model P w) A (.call (.ref f) args) (CR CX outer P w H s Q E) s
theorem we.make{P:l_}{w:k_}{K:u_}{mg:Str->Option f_}{base:j_}{outer:List Env}(e:we P w K mg base A outer s H)(C:e_)(us:List f_)(kw:List (Str×f_)) :
  we P w K mg base (A.under (.builtin "type.__call__" ⟨.ref C::us,kw⟩)) outer s H:=⟨by first | exact e.frames | (simpa[NB,Code.envs,Code.isFrame,pushEnvs]using e.frames),e.mod,e.bs,e.mG,e.lj,e.sv,e.aD,e.bare⟩
section
variable{X:Cx}{p_:List (e_×Obj)}{σ:St}{H:Hp}{s s':g_}
theorem Inv.SR(I:Inv X p_ σ H s):we X.prog X.w X.K X.mg X.base X.A X.stack s H:=
 ⟨I.ok.frames,I.ok.mod,I.bs,cx I.ok.mG I.sz,I.stack,I.HM,I.aD,I.bare⟩
theorem Inv.after(I:Inv X p_ σ H s)(h:CE X.stack X.prog X.w H s Q u s'):EP X p_ σ Q u s':=by
 obtain⟨v,H',os,bare,un,aD,r,q⟩:=h;obtain⟨hh,g,d,t,os'⟩:=s';obtain rfl:os'=s.os:=os;exact⟨v,H',I.call (h':=hh) (g':=g) (d':=d) (t':=t) (ch:=[]) un aD bare λb z=>absurd z (by simp),r,q⟩
end
abbrev RB(sp:Sp)(dvs:List V)(E:XK)(t:TA):TE:=λσ H Q=>t σ H λvs H1=>sp (vs++dvs) H1 Q E
def Jm(C:e_)(m:Str)(sp:Sp)(dvs:List V)(E:XK)(ta:TE)(t:TA):TE:=λσ H Q=>ta σ H λx H1=>∃a dx fs,x=.ref a/\H1 a=a_ (.ins C dx fs)/\fs.lookup m=b_/\
 t σ H1 λvs H2=>sp (x::(vs++dvs)) H2 Q E
def aeL(C:e_)(sp:Sp)(dvs:List V)(E:XK)(t:TA):TE:=λσ H Q=>t σ H λvs H1=>∀x dx,H1 x=b_->H1 dx=b_->dx≠x->
 sp (.ref x::(vs++dvs)) (upd (upd H1 dx (.own x)) x (.ins C dx [])) (λv H2=>v=.aH/\Q (.ref x) H2) E
def Binds(K:u_)(fd:lW)(ps:List Str)(ds:List f_):Prop:=
 ∀(s:g_) (us:List f_),K.In s.heap->(us++ds).length=ps.length->BindsTo s fd ⟨us,[]⟩ (ps.zip (us++ds))
theorem Binds.all{K:u_}(h:∀us:List f_,us.length=ps.length->rE fd ⟨us,[]⟩=pure (ps.zip us)):Binds K fd ps []:=λs us _ hl=>by
 rw[List.append_nil]at hl ⊢;exact .of_eq (h us hl)
def Passes(CX:pe)(X:Cx)(E:XK):Prop:=∀(p_:List (e_×Obj)) (σ:St) (H:Hp) (s:g_) (e:f_) (s':g_),Inv X p_ σ H s->CX X.stack H s E e s'->X.xe e s'
section
variable{X:Cx}{CX:pe}{k:Nat}{f C:e_}{fd:lW}{ps:List Str}{sp:Sp}{dvs:List V}{ds:List f_}{E:XK}{x m:Str}{p pos apos:Pos}{e o:Expr}{es:List Expr}{ta:TE}{t:TA}
theorem Ap(F:ax X.prog X.w X.K X.mg X.base CX k f fd ps sp)(hr:eJ k X.A)(hb:Binds X.K fd ps ds)(hd:Vals dvs ds)(hx:Passes CX X E)
  (I:Inv X p_ σ H s) (r:Vals vs us) (h:sp (vs++dvs) H Q E):wpAny (model X.prog X.w) X.A (call (.ref f) us) (EP X p_ σ Q) X.xe s:=by
 have r2:=r.append hd;have hl:(us++ds).length=ps.length:=by rw[<-r2.length];exact F.len _ _ _ _ h
 refine Gk (zO (F.run X.A X.stack s H ⟨us,[]⟩ (us++ds) (vs++dvs) Q E hr I.SR (hb s us I.eD hl) r2 h) λr s' hq=>?_);cases r with
 | error e=>exact hx p_ σ H s e s' I hq
 | ok fl=>
  cases fl with
  | ret u=>exact I.after hq
  | next=>exact lU hq
  | brk=>exact lU hq
  | cont=>exact lU hq
theorem cU(F:ax X.prog X.w X.K X.mg X.base CX k f fd ps sp)(hr:eJ k X.A)(hg:Gl X x)(hm:X.mg x=a_ (.ref f))(hk:x_ X.K (.ref f)=c_)(hb:Binds X.K fd ps ds)(hd:Vals dvs ds)(hx:Passes CX X E)
  (ha:PA X (e::es) t) (sT:(x == ("__debug__" : Str))=false:=by decide) (he:cA (e::es) X.env=(d_,eval e X.env)::cA es X.env:=by rfl) (eL:(backTo pos (cA es X.env)).any (·.1)=false:=by rfl) :
  PE X (.Call (.Name x p) (e::es) [] pos) (RB sp dvs E t):=by
 intro p_ s σ H Q I h;refine tj (CW I hg hm ?_ sT);refine G_ (h₀:=X.base) I.ok.mod.yQ hk (aI (ha pos p_ s σ H _ I h) λus s1 ⟨vs,H1,I1,r,q⟩=>⟨I1.eD,?_⟩) he eL;exact Ap F hr hb hd hx I1 r q
theorem iW{pl:Sem Bool}(he:PE X o ta)(c:fq X.K C)(hm:Meth X.K C m f)(F:ax X.prog X.w X.K X.mg X.base CX k f fd ps sp)(hr:eJ k X.A)(hb:Binds X.K fd ps ds)(hd:Vals dvs ds)(hx:Passes CX X E)(ha:PA X (e::es) t)
  (dv:cA (e::es) X.env=(d_,eval e X.env)::cA es X.env:=by rfl) (eL:(backTo pos (cA es X.env)).any (·.1)=false:=by rfl)
  (ht:eval (.Call (.Attribute o m apos) (e::es) [] pos) X.env=(do
   let ov <-eval o X.env
   standAt apos.atName
   let (f,first) <-holding [ov] (z0 ov m pl)
   callWith pos f first (backTo pos (cA (e::es) X.env)) (yb pos (xM [] X.env))):=by rfl) :
  PE X (.Call (.Attribute o m apos) (e::es) [] pos) (Jm C m sp dvs E ta t):=by
 intro p_ s σ H Q I h;refine W.methodCall_KW (pl:=pl) (aI (he p_ s σ H _ I h) λu s1 ⟨x,H1,I1,rx,a,dx,fs,ex,ea,l,q⟩=>?_) ht;subst ex;obtain rfl:u=cR a:=rx;refine Gg I1 ea c hm l (G_ (first:=[.ref a]) (h₀:=X.base) I.ok.mod.yQ hm.kp (aI (ha pos p_ s1 σ H1 _ I1 q) λus s2 ⟨vs,H2,I2,r,q2⟩=>⟨I2.eD,?_⟩) dv eL);exact Ap (us:=.ref a::us) (vs:=.ref a::vs) F hr hb hd hx I2 (.cons rfl r) q2
theorem jT{pl:Sem Bool}(he:PE X o ta)(c:fq X.K C)(hm:Meth X.K C m f)(F:ax X.prog X.w X.K X.mg X.base CX k f fd ps sp)(hr:eJ k X.A)(hb:Binds X.K fd ps ds)(hd:Vals dvs ds)(hx:Passes CX X E)
  (ht:eval (.Call (.Attribute o m apos) [] [] pos) X.env=(do
   let ov <-eval o X.env
   standAt apos.atName
   let (f,first) <-holding [ov] (z0 ov m pl)
   callWith pos f first (backTo pos (cA [] X.env)) (yb pos (xM [] X.env))):=by rfl) :
  PE X (.Call (.Attribute o m apos) [] [] pos) (Jm C m sp dvs E ta Sl):=by
 intro p_ s σ H Q I h;refine W.methodCall_KW (pl:=pl) (aI (he p_ s σ H _ I h) λu s1 ⟨x,H1,I1,rx,a,dx,fs,ex,ea,l,q⟩=>?_) ht;subst ex;obtain rfl:u=cR a:=rx;exact Gg I1 ea c hm l (W.callWith_K0 (first:=[.ref a]) I1.eD hm.kp (Ap (us:=[.ref a]) (vs:=[.ref a]) F hr hb hd hx I1 (.cons rfl .nil) q))
structure Mk(K:u_)(C f:e_):Prop where
 makes:W.makesIn K C=c_
 init:w_ K (.ref C) "__init__" = a_ (a_ (.ref f))
 fn:W.isFn K (.ref f)=c_
 kp:x_ K (.ref C)=c_
theorem Z'(M:Mk X.K C f)(F:ax X.prog X.w X.K X.mg X.base CX k f fd ps sp)(hr:eJ (k+1) X.A)(hb:Binds X.K fd ps ds)(hd:Vals dvs ds)
  (hx:Passes CX X E) (I:Inv X p_ σ H s) (r:Vals vs us)
  (h:∀x dx,H x=b_->H dx=b_->dx≠x->sp (.ref x::(vs++dvs)) (upd (upd H dx (.own x)) x (.ins C dx [])) (λv H2=>v=.aH/\Q (.ref x) H2) E) :
  wpAny (model X.prog X.w) X.A (call (.ref C) us) (EP X p_ σ Q) X.xe s:=by
 have hq:=h (s.heap.objs.size+1) s.heap.objs.size (I.aD.fresh (kJ _)) (I.aD.fresh (aw _)) (cI (zH _));have I2:=Inv.made (C:=C) I;have r2:Vals (V.ref (s.heap.objs.size+1)::(vs++dvs)) (cR (s.heap.objs.size+1)::(us++ds)):=.cons rfl (r.append hd)
 have hl:(cR (s.heap.objs.size+1)::us++ds).length=ps.length:=by
  have e:=r2.length;rw[F.len _ _ _ _ hq]at e;exact e.symm
 refine Gk (aaM (f:=f) I.eD M.makes M.init (beq_iff_eq.mp M.fn) (zO (F.run _ X.stack _ _ ⟨cR (s.heap.objs.size+1)::us,[]⟩ (cR (s.heap.objs.size+1)::(us++ds)) _ _ E (hr.make C us []) (I2.SR.make C us []) (hb _ (cR (s.heap.objs.size+1)::us) I2.eD hl) r2 hq) λr s' xa=>?_));cases r with
 | error e=>exact hx p_ σ _ _ e s' I2 xa
 | ok fl=>
  cases fl with
  | ret u=>
   obtain⟨v,H',I3,rv,ev,q3⟩:=I2.after xa;subst ev;exact⟨rv,⟨V.ref (s.heap.objs.size+1),H',I3,rfl,q3⟩⟩
  | next=>exact lU xa
  | brk=>exact lU xa
  | cont=>exact lU xa
theorem Ak(M:Mk X.K C f)(F:ax X.prog X.w X.K X.mg X.base CX k f fd ps sp)(hr:eJ (k+1) X.A)(hg:Gl X x)(hm:X.mg x=a_ (.ref C))(hb:Binds X.K fd ps ds)(hd:Vals dvs ds)(hx:Passes CX X E)
  (ha:PA X (e::es) t) (sT:(x == ("__debug__" : Str))=false:=by decide) (he:cA (e::es) X.env=(d_,eval e X.env)::cA es X.env:=by rfl) (eL:(backTo pos (cA es X.env)).any (·.1)=false:=by rfl) :
  PE X (.Call (.Name x p) (e::es) [] pos) (aeL C sp dvs E t):=by
 intro p_ s σ H Q I h;refine tj (CW I hg hm ?_ sT);refine G_ (h₀:=X.base) I.ok.mod.yQ M.kp (aI (ha pos p_ s σ H _ I h) λus s1 ⟨vs,H1,I1,r,q⟩=>⟨I1.eD,?_⟩) he eL;exact Z' M F hr hb hd hx I1 r q
end
structure bf(N P:List Str)(sc:i_):Prop where
 kind:sc.kind=.function
 co:sc.isCoroutine=d_
 gen:sc.isGenerator=d_
 nd:N.Nodup
 pre:N.take P.length=P
 par:∀x∈P,sc.names.lookup x=a_ .local\/sc.names.lookup x=a_ .cell
 adv:∀y∈sc.names,y.2≠.free
theorem bz{N P:List Str}{sc:i_}(a:sc.kind=.function:=by rfl)(b:sc.isCoroutine=false:=by rfl)(c:sc.isGenerator=false:=by rfl)(d:N.Nodup:=by decide +kernel)(e:N.take P.length=P:=by rfl)(f:∀x∈P,sc.names.lookup x=a_ .local\/ sc.names.lookup x=a_ .cell:=by decide +kernel)(g:∀y∈sc.names,y.2≠.free:=by decide +kernel):bf N P sc:=⟨a,b,c,d,e,f,g⟩
theorem OJ{kindOf:Str->Option eI}:∀{binds:List (Str×f_)} {m:Str->Option f_},(∀v,(x,v)∉binds)->bindL kindOf binds m x=m x
 | [],_,_=>rfl
 | (n,v)::r,m,h=>by
  unfold bindL;rw[OJ λw hw=>h w (List.mem_cons_of_mem _ hw)]
  split
  ·have:x≠n:=by rintro rfl;exact h v List.mem_cons_self
   simp[this]
  ·rfl
theorem OL{kindOf:Str->Option eI}:∀{binds:List (Str×f_)} {m:Str->Option f_},(∀v,(x,v)∉binds)->bindC kindOf binds m x=m x
 | [],_,_=>rfl
 | (n,v)::r,m,h=>by
  unfold bindC;rw[OL λw hw=>h w (List.mem_cons_of_mem _ hw)]
  split
  ·rfl
  ·have:x≠n:=by rintro rfl;exact h v List.mem_cons_self
   simp[this]
theorem OK{kindOf:Str->Option eI}:∀{P:List Str} {vs:List f_} {i:Nat} {m:Str->Option f_},P.Nodup->P[i]?=a_ x->vs[i]?=a_ v->kindOf x=a_ .local->
  bindL kindOf (P.zip vs) m x=a_ v
 | [],_,_,_,_,h,_,_=>by simp at h
 | _::_,[],_,_,_,_,h,_=>by simp at h
 | p::P,w::vs,0,m,nd,h1,h2,hk=>by
  simp at h1 h2;subst h1;subst h2;show bindL kindOf ((p,w)::P.zip vs) m p=_;unfold bindL;rw[OJ λv hv=>(List.nodup_cons.mp nd).1 (List.of_mem_zip hv).1,if_pos hk];simp
 | p::P,w::vs,i+1,m,nd,h1,h2,hk=>by
  show bindL kindOf ((p,w)::P.zip vs) m x=_;unfold bindL;exact OK (i:=i) (List.nodup_cons.mp nd).2 (by simpa using h1) (by simpa using h2) hk
theorem OM{kindOf:Str->Option eI}:∀{P:List Str} {vs:List f_} {i:Nat} {m:Str->Option f_},P.Nodup->P[i]?=a_ x->vs[i]?=a_ v->kindOf x≠a_ .local->
  bindC kindOf (P.zip vs) m x=a_ v
 | [],_,_,_,_,h,_,_=>by simp at h
 | _::_,[],_,_,_,_,h,_=>by simp at h
 | p::P,w::vs,0,m,nd,h1,h2,hk=>by
  simp at h1 h2;subst h1;subst h2;show bindC kindOf ((p,w)::P.zip vs) m p=_;unfold bindC;rw[OL λv hv=>(List.nodup_cons.mp nd).1 (List.of_mem_zip hv).1,if_neg hk];simp
 | p::P,w::vs,i+1,m,nd,h1,h2,hk=>by
  show bindC kindOf ((p,w)::P.zip vs) m x=_;unfold bindC;exact OM (i:=i) (List.nodup_cons.mp nd).2 (by simpa using h1) (by simpa using h2) hk
def start(N:List Str)(vs:List V):St:=vs.map a_++List.replicate (N.length-vs.length) b_
def um(CX:pe)(P:l_)(w:k_)(K:u_)(mg:Str->Option f_)(base:j_)(N:List Str)(qual:Str)(scope:i_)(f:e_)(cd:f_)(A:h_)(outer:List Env)(s:g_)(H:Hp)(E:XK):Cx where
 prog:=P
 w:=w
 K:=K
 mg:=mg
 base:=base
 A:=A.deeper (envOfC qual scope s.heap.objs.size f cd)
 N:=N
 s₀:=s
 H₀:=H
 env:=envOfC qual scope s.heap.objs.size f cd
 outer:=outer
 stack:=envOfC qual scope s.heap.objs.size f cd::outer
 ex:=[]
 calm:=c_
 fn:=λ_=>c_
 pn:=[]
 xe:=λe s'=>wpAny (model P w) (A.deeper (envOfC qual scope s.heap.objs.size f cd)) (leaving (envOfC qual scope s.heap.objs.size f cd) e) (λ_ Lg=>CX outer H s E e Lg) (λe' Lg=>CX outer H s E e' Lg) s'
theorem Pz{sc:i_}{n:Nat}(h:sc.names.lookup x=a_ .cell):∃c,(cellsFrom n sc.names []).lookup x=a_ c:=by
 have q:=W.cellsFrom_some sc.names n [] (.inl h);exact MF.mp q
theorem Zv{CX:pe}{P:l_}{w:k_}{K:u_}{mg:Str->Option f_}{base:j_}{scope:i_}{outer:List Env}
  (S:bf N ps scope) (hd:A.handled=b_) (e0:we P w K mg base A outer s H) (hl:vs.length=ps.length) (r:Vals vs us)
  (x:InCallC s s.heap.objs.size (bindL (envOfC qual scope s.heap.objs.size f cd).kindOf (ps.zip us) λ_=>b_) (cellsFrom (s.heap.objs.size+1) scope.names []) (bindC (envOfC qual scope s.heap.objs.size f cd).kindOf (ps.zip us) λ_=>b_) s1) :
  Inv (um CX P w K mg base N qual scope f cd A outer s H E) [] (start N vs) H s1:=by
 have eL:ps.length<=N.length:=by have:=congrArg List.length S.pre;rw[List.length_take]at this;omega
 obtain⟨h1,tk,rfl,hk⟩:=x.done;have qI:∀b:e_,b∉(um CX P w K mg base N qual scope f cd A outer s H E).ex:=λb z=>absurd (show b∈([]:List e_) from z) (by simp);refine⟨⟨e0.mod,S.kind,rfl,rfl,aw _,λy z c h1 h2=>?_,λy hy=>?_,λy c _ h=>?_,λ_=>hd,Xi e0.frames,.inr ⟨rfl,rfl⟩,λb z=>absurd z (qI b),e0.bs,e0.mG,λb _ _=>qI b,λb z=>absurd z (qI b),e0.lj,e0.sv⟩,rfl,e0.bare,Un.kept hk,⟨_,x.toInCall.ns,λi y v h1 h2 h3=>?_⟩,λy c h=>⟨_,x.cell y c h⟩,e0.aD.fresh (aw _),λy c h=>?_,λp hp=>absurd (show p∈([]:List (e_×Obj)) from hp) (by simp),e0.aD.kept hk,?_⟩
 ·exact name_of_addr x.apart (t_ h1) (t_ h2)
 ·have hy:scope.names.lookup y=a_ .cell\/scope.names.lookup y=a_ .free:=hy;rcases hy with hy | hy
  ·exact Pz hy
  ·exact absurd rfl (S.adv _ (t_ hy))
 ·exact c8 (x.above y c (t_ h))
 ·have hi:i<vs.length:=by
   unfold start at h2
   by_cases hi:i<vs.length
   ·exact hi
   ·rw[List.getElem?_append_right (by simpa using hi)]at h2;rw[List.getElem?_replicate]at h2
    split at h2 <;> cases h2
  have ha:vs[i]?=a_ v:=by
   unfold start at h2;rw[List.getElem?_append_left (by simpa using hi),List.getElem?_map]at h2;cases e:vs[i]? with
   | none=>rw[e]at h2;cases h2
   | some a=>rw[e]at h2;cases h2;rfl
  obtain⟨u,hu,rv⟩:=r.get ha
  have hp:ps[i]?=a_ y:=by
   rw[<-S.pre,List.getElem?_take_of_lt om];exact h1
  have U8:ps.Nodup:=by rw[<-S.pre];exact S.nd.sublist (List.take_sublist _ _)
  refine⟨u,rv,?_⟩;rcases S.par y (List.mem_of_getElem? hp)with k | k
  ·exact .inl ⟨k,OK U8 hp hu k⟩
  ·obtain⟨c,e⟩:=Pz (n:=s.heap.objs.size+1) k;refine .inr ⟨.inl k,c,e,?_⟩;have q:=x.cell y c e;rw[OM U8 hp hu (by show scope.names.lookup y≠_;rw[k];decide)]at q;exact q
 ·exact e0.aD.fresh (c8 (x.above y c (t_ h)))
 ·unfold start;show _=N.length;rw[List.length_append,List.length_map,List.length_replicate];omega
theorem vZ{CX:pe}{P:l_}{w:k_}{K:u_}{mg:Str->Option f_}{base:j_}{k:Nat}{params:Arguments}{body:List Stmt}{scope:i_}{dV kV doc pm aL ct oc:f_}{an od:Option e_}
  {iz:Array (Option f_)} {sp:Sp} (lk:K.lookup f=a_ ⟨oc,od,.func (B_ name qual params body scope dV kV doc pm an aL ct),iz⟩) (iD:W.codeIn K aL qual=c_) (S:bf N ps scope)
  (len:∀vs H Q E,sp vs H Q E->vs.length=ps.length)
  (v5:∀(A:h_) (outer:List Env) (s:g_) (H:Hp) (vs:List V) (Q:VK) (E:XK),eJ k (A.deeper (envOfC qual scope s.heap.objs.size f aL))->sp vs H Q E->
   ∃t,fg (um CX P w K mg base N qual scope f aL A outer s H E) body t/\t { nx:=λ_ H'=>Q .aH H',rt:=Q } (start N vs) H) :
  ax P w K mg base CX (k+1) f (B_ name qual params body scope dV kV doc pm an aL ct) ps sp:=by
 refine⟨len,λA outer s H args us vs Q E hr e0 hb r qL=>?_⟩;have hl:=len _ _ _ _ qL;have KX:=e0.mod.yQ.keeps λb o e=>(e0.bs b o e).1;have lim:=e0.mod.nolimit.keeps λb o e=>(e0.bs b o e).1
 have agr:∀y∈ps.zip us,scope.names.lookup y.1=a_ .local\/(scope.names.lookup y.1=a_ .cell/\((cellsFrom (s.heap.objs.size+1) scope.names []).lookup y.1).isSome=c_):=λ⟨n,v⟩ hy=>by
  rcases S.par n (List.of_mem_zip hy).1 with q | q
  ·exact .inl q
  ·exact .inr ⟨q,W.cellsFrom_some _ _ _ (.inl q)⟩
 refine codeAny_call_function hr.depth (KX _ _ lk) rfl S.co S.gen rfl (W.codeRec_of KX iD) (hb _ _ _ _ (wpAny_newFunctionEnv_cells S.kind agr λenv he s1 x=>?_));subst he;refine⟨lim.keeps x.toInCall.keep,codeAny_func ?_⟩;obtain⟨t,ht,hq⟩:=v5 A outer s H vs Q E (hr.deeper _) qL;have I:Inv (um CX P w K mg base N qual scope f aL A outer s H E) [] (start N vs) H s1:=Zv S hr.hd e0 hl r x;refine gG (ht [] s1 (start N vs) H _ I hq) (λfl s' hs=>?_) λe s' hs=>hs
 have fin:∀{σ':St} {H':Hp} {v:V} {u:f_},Inv (um CX P w K mg base N qual scope f aL A outer s H E) [] σ' H' s'->RelV v u->Q v H'->CE outer P w H s Q u s':=
  λ{σ' H' v u} J rv q=>⟨v,H',J.os,J.bare,J.base,J.aD,rv,q⟩
 cases fl with
 | ret u=>
  obtain⟨v,σ',H',J,rv,q⟩:=hs;exact fin J rv q
 | next=>
  obtain⟨σ',H',J,q⟩:=hs;exact fin (v:=V.aH) (u:=oo) J rfl q
 | brk=>
  obtain⟨_,_,_,q⟩:=hs;exact lU q
 | cont=>
  obtain⟨_,_,_,q⟩:=hs;exact lU q
section
variable{X:Cx}{x:Str}{p pos:Pos}{e:Expr}{es:List Expr}{t:TA}{id T:String}{r:List V->Hp->VK->Prop}
def Ec(r:List V->Hp->VK->Prop)(t:TA):TE:=λσ H Q=>t σ H λvs H1=>r vs H1 Q
theorem bw(hc:jC X (.builtin id) r)(hg:Gl X x)(hm:X.mg x=b_)(hv:q8 x=a_ (.builtin id))(ha:PA X (e::es) t)(hn:x ≠ "__name__":=by decide)(sT:(x == ("__debug__" : Str))=false:=by decide)
  (he:cA (e::es) X.env=(d_,eval e X.env)::cA es X.env:=by rfl) (eL:(backTo pos (cA es X.env)).any (·.1)=false:=by rfl):PE X (.Call (.Name x p) (e::es) [] pos) (Ec r t):=by
 intro p_ s σ H Q I h;refine tj (oH I hg hm hv ?_ hn sT);exact PyProof.Rows.callWith_builtin1 (aI (ha pos p_ s σ H _ I h) λus s1 ⟨vs,H1,I1,r1,q1⟩=>hc p_ s1 σ H1 vs us Q I1 r1 q1) he eL
theorem pZ(hc:jC X (.type T) r)(hg:Gl X x)(hm:X.mg x=b_)(hv:q8 x=a_ (.type T))(ha:PA X (e::es) t)(hn:x ≠ "__name__":=by decide)(sT:(x == ("__debug__" : Str))=false:=by decide)
  (he:cA (e::es) X.env=(d_,eval e X.env)::cA es X.env:=by rfl) (eL:(backTo pos (cA es X.env)).any (·.1)=false:=by rfl):PE X (.Call (.Name x p) (e::es) [] pos) (Ec r t):=by
 intro p_ s σ H Q I h;refine tj (oH I hg hm hv ?_ hn sT);exact vg (aI (ha pos p_ s σ H _ I h) λus s1 ⟨vs,H1,I1,r1,q1⟩=>hc p_ s1 σ H1 vs us Q I1 r1 q1) he eL
end
end L2
namespace HT
section
variable{prog:l_}{w:k_}{A:h_}{E:f_->g_->Prop}{s:g_}
def cj(n d:Nat):Option Int->Nat
 | none=>d
 | some v=>if v<0 then (v+(n:Int)).toNat else min v.toNat n
theorem O9(n d:Nat):cj n d b_=d:=rfl
theorem CP(n d k:Nat):cj n d (a_ (k:Int))=min k n:=by
 show (if (k:Int)<0 then ((k:Int)+(n:Int)).toNat else min (k:Int).toNat n)=min k n;rw[if_neg om,fZ]
theorem ac8(n d:Nat)(hd:d<=n)(o:Option Int):cj n d o<=n:=by
 cases o with
 | none=>exact hd
 | some v=>
  show (if v<0 then (v+(n:Int)).toNat else min v.toNat n)<=n
  by_cases hv:v<0
  ·rw[if_pos hv];omega
  ·rw[if_neg hv];exact Nat.min_le_right _ _
theorem Qt(v:Int)(n d:Nat):(if v<0 then max (v+(n:Int)) 0 else min v (n:Int))=((cj n d (a_ v):Nat):Int):=by
 show (if v<0 then max (v+(n:Int)) 0 else min v (n:Int))=(((if v<0 then (v+(n:Int)).toNat else min v.toNat n):Nat):Int)
 by_cases hv:v<0
 ·simp only[if_pos hv];omega
 ·simp only[if_neg hv];omega
theorem YO(lo hi:Option Int)(n:Nat):ME lo hi 1 (n:Int)=(((cj n 0 lo:Nat):Int),((cj n n hi:Nat):Int)):=by
 have h1:¬((1:Int)<0):=om;unfold ME;simp only[h1,if_false];refine Prod.ext ?_ ?_
 ·cases lo with
  | none=>rfl
  | some v=>exact Qt v n 0
 ·cases hi with
  | none=>rfl
  | some v=>exact Qt v n n
theorem Ys(i j:Nat):Fq (i:Int) (j:Int) 1=j-i:=by
 unfold Fq;have h1:(1:Int) > 0:=om;simp only[h1,if_true,Int.ediv_one]
 split <;> omega
theorem NL{o:Option Int}{Q:Option Int->g_->Prop}(p:IsPart v o)(h:Q o s):wpAny (model prog w) A (Builtin.Slice.slicePartIndex v) Q E s:=by
 cases p with
 | none=>exact slicePart_none h
 | int i t=>exact slicePart_int h
theorem Xx{sl:e_}{lo hi:Option Int}{n:Nat}{Q:Int×Int×Nat->g_->Prop}(hs:s.heap.IsSliceOf sl vl vu .none)(pl:IsPart vl lo)(pu:IsPart vu hi)
  (h:Q (((cj n 0 lo:Nat):Int),1,cj n n hi-cj n 0 lo) s):wpAny (model prog w) A (WY (.ref sl) (pure (n:Int))) Q E s:=by
 obtain⟨os,sN,pI,E8⟩:=id hs;unfold WY Builtin.Slice.sliceFields;refine aj (aj (jS sN E8 (x:=vl) rfl (aj (jS sN E8 (x:=vu) rfl (aj (jS sN E8 (x:=.none) rfl (aM (aj (slicePart_none ?_)))))))));show wpAny _ _ (if ((1:Int) == 0)=c_ then _ else _) _ _ s;rw[if_neg qc];refine aj (NL pl (aj (NL pu (aj (aM ?_)))));show wpAny _ _ (match ME lo hi 1 (n:Int)with | (lo,hi)=>pure (lo,(1:Int),Fq lo hi 1)) _ _ s;rw[YO lo hi n];show wpAny _ _ (pure (((cj n 0 lo:Nat):Int),(1:Int),Fq ((cj n 0 lo:Nat):Int) ((cj n n hi:Nat):Int) 1)) _ _ s;rw[Ys];exact aM h
theorem aaf(xs:Array f_)(i k:Nat):((List.range k).filterMap λ(m:Nat)=>xs[((i:Int)+(m:Int)*1).toNat]?).toArray=((xs.toList.drop i).take k).toArray:=by
 have e:(λ(m:Nat)=>xs[((i:Int)+(m:Int)*1).toNat]?)=λm=>xs[i+m]?:=by
  funext m
  have:((i:Int)+(m:Int)*1).toNat=i+m:=om;rw[this]
 rw[e];have:=pick_run xs i k;rw[List.filterMap_map]at this;have e2:((λx=>xs[x]?) ∘ λx=>i+x)=λm=>xs[i+m]?:=rfl;rw[e2]at this;rw[this]
theorem Xp{t sl:e_}{items:Array f_}{lo hi:Option Int}(ht:IsTup s.heap t items)(hs:s.heap.IsSliceOf sl vl vu .none)(pl:IsPart vl lo)(pu:IsPart vu hi)
  (hw:¬(cj items.size 0 lo=0/\cj items.size items.size hi=items.size))
  (h:Q (.ref s.heap.objs.size) { s with heap:=s.heap.push { cls:=.type "tuple",data:=.seq ((items.toList.drop (cj items.size 0 lo)).take (cj items.size items.size hi-cj items.size 0 lo)).toArray } })
  (hsz:items.size<=a9):wpAny (model prog w) A (getItem (.ref t) (.ref sl)) Q E s:=by
 have DD:sizeOk (.seq ((items.toList.drop (cj items.size 0 lo)).take (cj items.size items.size hi-cj items.size 0 lo)).toArray):=by
  show ((items.toList.drop (cj items.size 0 lo)).take (cj items.size items.size hi-cj items.size 0 lo)).toArray.size<=a9;rw[List.size_toArray,List.length_take,List.length_drop,dj];omega
 have hj:cj items.size items.size hi<=items.size:=ac8 _ _ (aw _) hi;obtain⟨os,sN,pI,E8⟩:=id hs;have hTs:s.TypeIs (.ref sl) "slice":=⟨os,sN,pI⟩;unfold getItem
 try with_reducible refine jw ?_
 first | refine aj (aM ?_) | skip
 refine aj (wpAny_sequenceKey ht.typeIs qc ?_);refine aj (zv (name:=q9 "__getitem__") ht.typeIs MD (xE MD ht.typeIs entry_tuple_getitem ?_ (args_tuple_getitem _ _)));show wpAny _ _ (Builtin.Tuple.tupleItemsOf (.ref t) >>= _) _ _ s;refine aj (tupleItemsOf_ ht (aj (B3 hTs ?_)));rw[if_pos qc];refine aj (Xx hs pl pu ?_)
 have kr:¬((((cj items.size 0 lo:Nat):Int) == 0&&(1:Int) == 1&&(cj items.size items.size hi-cj items.size 0 lo) == items.size)=c_):=by
  intro q;rw[nj,nj]at q;have q1:=gu q.1.1;have q2:=gu q.2;exact hw ⟨om,om⟩
 show wpAny _ _ (if (((cj items.size 0 lo:Nat):Int) == 0&&(1:Int) == 1&&(cj items.size items.size hi-cj items.size 0 lo) == items.size)=c_ then _ else _) _ _ s;rw[if_neg kr,aaf]
 first
  | exact aj (m:=zu _) (tu (aM ⟨_,rfl,aM h⟩) DD)
  | exact aj (m:=zu _) (tu (aj (aM (aM ⟨_,rfl,aM h⟩))) DD)
  | exact aj (aj (m:=zu _) (tu (aM (aM ⟨_,rfl,aM h⟩)) DD))
  | exact aj (aj (m:=zu _) (tu (aM ⟨_,rfl,aM h⟩) DD))
end
end HT
namespace L2
abbrev TO:=St->Hp->(Option Int->Hp->Prop)->Prop
def PO(X:Cx)(e:Option Expr)(t:TO):Prop:=
 ∀(p_:List (e_×Obj)) (s:g_) (σ:St) (H:Hp) (Q:Option Int->Hp->Prop),Inv X p_ σ H s->t σ H Q->
  wpAny (model X.prog X.w) X.A (evalPart e X.env) (λu s'=>∃o H',Inv X p_ σ H' s'/\IsPart u o/\Q o H') X.xe s
def abt:TO:=λ_ H Q=>Q b_ H
def aeI(t:TE):TO:=λσ H Q=>t σ H λx H1=>∃i,x=.int i/\Q (a_ i) H1
theorem intsAre_of:∀{us:List f_},Vals (ns.map V.int) us->IntsAre us ns:=by
 induction ns with
 | nil=>intro us r;rw[List.map_nil]at r;cases r;exact .nil
 | cons n ns ih=>
  intro us r;rw[List.map_cons]at r;cases r with
  | cons r1 r2=>
   obtain⟨t,e⟩:=r1;subst e;exact .cons n t (ih r2)
section
variable{X:Cx}{e:Expr}{te:TE}{lo hi:Option Expr}{tl th:TO}{pos p2:Pos}
theorem Aj:PO X b_ abt:=by
 intro p_ s σ H Q I h;rw[evalPart_none];exact aM ⟨b_,H,I,.none,h⟩
theorem vC(h:PE X e te):PO X (a_ e) (aeI te):=by
 intro p_ s σ H Q I hw;rw[evalPart_some];refine aI (h p_ s σ H _ I hw) λu s1 ⟨x,H1,I1,r1,q1⟩=>?_;obtain⟨i,rfl,q⟩:=q1;obtain⟨t,rfl⟩:=r1;exact⟨a_ i,H1,I1,.int i t,q⟩
def La(X:Cx)(r:V->Option Int->Option Int->Hp->VK->Prop):Prop:=
 ∀(p_:List (e_×Obj)) (s:g_) (σ:St) (H:Hp) (x:V) (v vl vu:f_) (lo hi:Option Int) (sl:e_) (Q:VK),Inv X p_ σ H s->RelV x v->s.heap.IsSliceOf sl vl vu .none->IsPart vl lo->IsPart vu hi->r x lo hi H Q->
  ∃T id,B9 (.type T) "__getitem__" = pure (a_ (.builtin id))/\s.TypeIs v T/\wpAny (model X.prog X.w) X.A (getItem v (.ref sl)) (EP X p_ σ Q) X.xe s
def tSl(r:V->Option Int->Option Int->Hp->VK->Prop)(te:TE)(tl th:TO):TE:=λσ H Q=>te σ H λx H1=>tl σ H1 λl H2=>th σ H2 λu H3=>r x l u H3 Q
theorem x8{r:V->Option Int->Option Int->Hp->VK->Prop}(hr:La X r)(he:PE X e te)(hl:PO X lo tl)(hu:PO X hi th):PE X (.Subscript e (.Slice lo hi b_ p2) pos) (tSl r te tl th):=by
 intro p_ s σ H Q I h;refine Subscript_ (aI (he p_ s σ H _ I h) λv s1 ⟨x,H1,I1,r1,q1⟩=>wpAny_Slice (aI (hl p_ s1 σ H1 _ I1 q1) λvl s2 ⟨l,H2,I2,pl,q2⟩=>aI (hu p_ s2 σ H2 _ I2 q2) λvu s3 ⟨u,H3,I3,pu,q3⟩=>?_));rw[evalPart_none];refine aM ?_;have I4:Inv X p_ σ H3 { s3 with heap:=s3.heap.push { cls:=.type "slice",data:=.fields #[vl,vu,.none] } }:=I3.kept (t':=s3.toks) λb ob q=>aY _ q;obtain⟨T,id,hT,ht,hg⟩:=hr p_ { s3 with heap:=s3.heap.push { cls:=.type "slice",data:=.fields #[vl,vu,.none] } } σ H3 x v vl vu l u s3.heap.objs.size Q I4 r1 (Heap.IsSliceOf.new ..) pl pu q3;show wpAny (model X.prog X.w) X.A (Nm e (.Slice lo hi b_ p2) v (.ref s3.heap.objs.size)) (EP X p_ σ Q) X.xe { s3 with heap:=s3.heap.push { cls:=.type "slice",data:=.fields #[vl,vu,.none] } };exact tail_any (ops:=[.ref s3.heap.objs.size,v]) ht hT hg (by with_unfolding_all rfl)
def ik(xs:List V)(lo hi:Option Int):List V:=(xs.drop (HT.cj xs.length 0 lo)).take (HT.cj xs.length xs.length hi-HT.cj xs.length 0 lo)
theorem ND(xs:List V)(lo hi:Option Int):(ik xs lo hi).length<=xs.length:=by
 unfold ik;rw[List.length_take,List.length_drop];omega
def agR(K:u_):V->Option Int->Option Int->Hp->VK->Prop:=λx lo hi H Q=>∃a xs,x=.ref a/\aB K H a xs/\
 ¬(HT.cj xs.length 0 lo=0/\HT.cj xs.length xs.length hi=xs.length)/\∀p,H p=b_->Q (.ref p) (upd H p (.tup (ik xs lo hi)))
theorem QP:La X (agR X.K):=by
 intro p_ s σ H x v vl vu lo hi sl Q I rx hs pl pu h;obtain⟨a,xs,rfl,hx,hw,q⟩:=h;cases rx;obtain⟨its,r,ht,hz⟩:=I.tuple hx;have hlen:its.toArray.size=xs.length:=by rw[List.size_toArray];exact r.length.symm
 refine⟨"tuple",_,MD.lookup,ht.typeIs,HT.Xp ht hs pl pu (by rw[hlen];exact hw) ?_ (by rw[hlen];exact hz)⟩;rw[hlen];refine⟨.ref s.heap.objs.size,_,I.laid (t':=s.toks) (o:=.tup (ik xs lo hi)) (λb ob q=>aY _ q) (aw _) ?_,rfl,q _ (I.aD.fresh (aw _))⟩;exact⟨cx (ND xs lo hi) hz,_,(r.drop (HT.cj xs.length 0 lo)).take (HT.cj xs.length xs.length hi-HT.cj xs.length 0 lo),ON _ _⟩
end
def lz(n:Nat)(i:Int):Option Nat:=if 0<=i then (if i<n then a_ i.toNat else b_) else if -(n:Int)<=i then a_ (i+n).toNat else b_
def eU{α:Type}(xs:List α)(i:Int):Option α:=(lz xs.length i).bind λj=>xs[j]?
theorem Qj{n:Nat}{i:Int}{j:Nat}(h:lz n i=a_ j):G0 i n=a_ j/\j<n/\-(n:Int)<=i/\i<n:=by
 unfold lz at h
 by_cases h0:0<=i
 ·rw[if_pos h0]at h
  by_cases h1:i<n
  ·rw[if_pos h1]at h;have e:=cu h;exact⟨by rw[seqIndex_of h0 h1,e],om,om,h1⟩
  ·rw[if_neg h1]at h;cases h
 ·rw[if_neg h0]at h
  by_cases h1:-(n:Int)<=i
  ·rw[if_pos h1]at h;have e:=cu h;exact⟨by rw[Nw om h1,e],om,h1,om⟩
  ·rw[if_neg h1]at h;cases h
theorem Qw{α:Type}{xs:List α}{i:Int}{v:α}(h:eU xs i=a_ v):∃j,G0 i xs.length=a_ j/\xs[j]?=a_ v/\j<xs.length/\-(xs.length:Int)<=i/\i<xs.length:=by
 unfold eU at h;cases e:lz xs.length i with
 | none=>rw[e]at h;cases h
 | some j=>
  rw[e]at h;obtain⟨h1,h2,h3,h4⟩:=Qj e;exact⟨j,h1,h,h2,h3,h4⟩
theorem cX{α:Type}{xs:List α}{j:Nat}{v:α}(h:xs[j]?=a_ v):eU xs (j:Int)=a_ v:=by
 have hj:j<xs.length:=(List.getElem?_eq_some_iff.mp h).1
 have e:lz xs.length (j:Int)=a_ j:=by
  unfold lz;rw[if_pos om,if_pos om];simp
 unfold eU;rw[e];exact h
theorem PB{α:Type}(xs:List α)(v:α):eU (xs++[v]) (-1)=a_ v:=by
 have hl:(xs++[v]).length=xs.length+1:=by simp
 have e:lz (xs++[v]).length (-1)=a_ xs.length:=by
  unfold lz;rw[hl,if_neg qc,if_pos om]
  congr 1
  omega
 unfold eU;rw[e];show (xs++[v])[xs.length]?=a_ v;simp
def acL(b:Expr):Prop:=∀o i,subscripted b d_ o i=operate [o,i] (getItem o i)
def A2(X:Cx)(r:R2):Prop:=
 ∀(value slice:Expr) (p_:List (e_×Obj)) (s:g_) (σ:St) (H:Hp) (x y:V) (v u:f_) (Q:VK),Inv X p_ σ H s->RelV x v->RelV y u->r x y H Q->
  subscripted slice d_ v u=operate [v,u] (getItem v u)->wpAny (model X.prog X.w) X.A (Nm value slice v u) (EP X p_ σ Q) X.xe s
def MtR(X:Cx)(id:String)(r:V->List V->Hp->VK->Prop):Prop:=
 ∀(p_:List (e_×Obj)) (s:g_) (σ:St) (H:Hp) (x:V) (xs:List V) (v:f_) (us:List f_) (Q:VK),Inv X p_ σ H s->RelV x v->Vals xs us->r x xs H Q->
  wpAny (model X.prog X.w) X.A (call (.builtin id) (v::us)) (EP X p_ σ Q) X.xe s
section
variable{X:Cx}{a b:Expr}{ta tb:TE}{pos:Pos}
theorem aJ{r:R2}(hr:A2 X r)(ha:PE X a ta)(hb:PE X b tb)(hs:acL b:=by intro _ _;rfl):PE X (.Subscript a b pos) (wz r ta tb):=by
 intro p_ s σ H Q I h;exact Subscript_ (Kk ha hb I h λv u s2 x y H2 I2 rx ry q=>hr a b p_ s2 σ H2 x y v u Q I2 rx ry q (hs _ _))
def yu(K:u_):R2:=λx y H Q=>∃p xs i v,x=.ref p/\y=.int i/\ae K H p xs/\eU xs i=a_ v/\Q v H
def AI(K:u_):R2:=λx y H Q=>∃p xs i v,x=.ref p/\y=.int i/\aB K H p xs/\eU xs i=a_ v/\Q v H
theorem cD:A2 X (yu X.K):=by
 intro value slice p_ s σ H x y v u Q I rx ry h hs;obtain⟨p,xs,i,z,rfl,rfl,hq,he,q⟩:=h;cases rx;obtain⟨t,rfl⟩:=ry;obtain⟨its,r,pl,hz⟩:=I.list hq;obtain⟨j,h1,h2,h3,h4,h5⟩:=Qw he;obtain⟨w,ew,gU⟩:=r.get h2;have hl:=r.length;have hn:=Ar;have fin:EP X p_ σ Q w s:=⟨z,H,I,gU,q⟩
 by_cases h0:0<=i
 ·have hj:i.toNat=j:=by
   rw[seqIndex_of h0 h5]at h1;exact cu h1
  exact item_listR pl.isList h0 om (by rw[hj];simpa using ew) fin hs
 ·have hj:(i+(its.toArray.size:Int)).toNat=j:=by
   rw[Nw om h4]at h1;rw[List.size_toArray,<-hl];exact cu h1
  exact W9 (x:=w) pl.isList.typeIs slot_list_getitem.lookup
   (wpAny_getItem_list_neg (Q:=λr s'=>r=w/\EP X p_ σ Q r s') pl.isList om (by rw[List.size_toArray] <;> omega) om (by rw[hj];simpa using ew) ⟨rfl,fin⟩) hs
theorem cq:A2 X (AI X.K):=by
 intro value slice p_ s σ H x y v u Q I rx ry h hs;obtain⟨p,xs,i,z,rfl,rfl,hq,he,q⟩:=h;cases rx;obtain⟨t,rfl⟩:=ry;obtain⟨its,r,pl,hz⟩:=I.tuple hq;obtain⟨j,h1,h2,h3,h4,h5⟩:=Qw he;obtain⟨w,ew,gU⟩:=r.get h2;have hl:=r.length;have hn:=Ar;have fin:EP X p_ σ Q w s:=⟨z,H,I,gU,q⟩
 exact W9 (x:=w) pl.typeIs slot_tuple_getitem.lookup
  (getItem_tuple (j:=j) (Q:=λr s'=>r=w/\EP X p_ σ Q r s') pl om om (by rw[List.size_toArray,<-hl];exact h1) (by simpa using ew) ⟨rfl,fin⟩) hs
theorem YH(its:List f_)(n j:Nat)(u:f_):kM (·.setIfInBounds j u) { cls:=.type "list",data:=.seq its.toArray n }={ cls:=.type "list",data:=.seq (its.set j u).toArray n }:=by
 simp[kM]
theorem Inv.lst(I:Inv X p_ σ H s)(h:H p=a_ (.lst xs)) :
  ∃(its:List f_) (n:Nat),Vals xs its/\s.heap.get? p=a_ { cls:=.type "list",data:=.seq its.toArray n }/\xs.length<=a9:=by
 obtain⟨z,its,n,r,e⟩:=I.aD p _ h;exact⟨its,n,r,e,z⟩
theorem Inv.adI{p_:List (e_×Obj)}{σ:St}{H:Hp}{s:g_}{p:e_}{xs ys:List V}{its jH:List f_}{n n':Nat}{f:Obj->Obj}(I:Inv X p_ σ H s)(h:H p=a_ (.lst xs))
  (ho:s.heap.get? p=a_ { cls:=.type "list",data:=.seq its.toArray n }) (hf:f { cls:=.type "list",data:=.seq its.toArray n }={ cls:=.type "list",data:=.seq jH.toArray n' }) (r:Vals ys jH) (hz:ys.length<=a9) (t:Nat) :
  Inv X p_ σ (upd H p (.lst ys)) { s with heap:=s.heap.update p f,toks:=t }:=by
 have e:(s.heap.update p f).get? p=a_ { cls:=.type "list",data:=.seq jH.toArray n' }:=by
  rw[MK f ho (by rw[hf] <;> rfl),hf]
 refine I.write (x:=p) (e:=p) (by rw[h];trivial) (.inl rfl) (λb u hb q=>(Xb _ _ (cB hb)).trans q) ⟨_,e⟩ ?_;exact⟨hz,jH,n',r,e⟩
def aeX:V->V->V->Hp->(Hp->Prop)->Prop:=λo i v H Q=>∃p xs k j,o=.ref p/\i=.int k/\H p=a_ (.lst xs)/\lz xs.length k=a_ j/\Q (upd H p (.lst (xs.set j v)))
theorem set_list:Km X aeX:=by
 intro p_ s σ H o i v ov iv u Q I ro ri rv h;obtain⟨p,xs,k,j,rfl,rfl,hp,hj,q⟩:=h;cases ro;obtain⟨t,rfl⟩:=ri;obtain⟨its,n,r,ho,hz⟩:=I.lst hp;obtain⟨h1,h2,h3,h4⟩:=Qj hj;have hl:=r.length;have hn:=Ar
 have I':Inv X p_ σ (upd H p (.lst (xs.set j v))) { s with heap:=s.heap.update p (kM (·.setIfInBounds j u)) }:=
  I.adI hp ho (YH its n j u) (r.set rv j) (by rw[List.length_set];exact hz) s.toks
 by_cases h0:0<=k
 ·have hk:k.toNat=j:=by
   rw[seqIndex_of h0 h4]at h1;exact cu h1
  exact W.ki_setAt ho h0 om (by rw[List.size_toArray,<-hl];exact h4) (by rw[hk];exact⟨_,I',q⟩)
 ·have hk:(k+(its.toArray.size:Int)).toNat=j:=by
   rw[Nw om h3]at h1;rw[List.size_toArray,<-hl];exact cu h1
  exact W.ki_setBack ho om (by rw[List.size_toArray,<-hl];exact h3) om (by rw[hk];exact⟨_,I',q⟩)
theorem TY(i:Int)(n d:Nat):max 0 (min (if i<0 then i+(n:Int) else i) (n:Int))=((HT.cj n d (a_ i):Nat):Int):=by
 show _=(((if i<0 then (i+(n:Int)).toNat else min i.toNat n:Nat)):Int)
 by_cases h:i<0
 ·rw[if_pos h,if_pos h];lia
 ·rw[if_neg h,if_neg h];lia
theorem X1(lo hi:Option Int)(n:Nat):(sliceBounds lo hi b_ n).1=((HT.cj n 0 lo:Nat):Int)/\(sliceBounds lo hi b_ n).2.1=((HT.cj n n hi:Nat):Int)/\(sliceBounds lo hi b_ n).2.2=1:=by
 refine⟨?_,?_,rfl⟩
 ·cases lo with
  | none=>rfl
  | some i=>exact(TY i n 0)
 ·cases hi with
  | none=>rfl
  | some i=>exact(TY i n n)
theorem XS(its:List f_)(lo hi:Option Int):slicePick its.toArray lo hi b_=((its.drop (HT.cj its.length 0 lo)).take (HT.cj its.length its.length hi-HT.cj its.length 0 lo)).toArray:=by
 obtain⟨h1,h2,h3⟩:=X1 lo hi its.toArray.size;unfold slicePick;rw[h1,h2,h3];simp only[sliceRange_one,pick_run,List.size_toArray] <;> rfl
def agS(K:u_):V->Option Int->Option Int->Hp->VK->Prop:=λx lo hi H Q=>∃a xs,x=.ref a/\ae K H a xs/\∀p,H p=b_->Q (.ref p) (upd H p (.lst (ik xs lo hi)))
theorem CM:La X (agS X.K):=by
 intro p_ s σ H x v vl vu lo hi sl Q I rx hs pl pu h;obtain⟨a,xs,rfl,hx,q⟩:=h;cases rx;obtain⟨its,r,ht,hz⟩:=I.list hx;have hlen:=r.length;refine⟨"list",_,slot_list_getitem.lookup,ht.isList.typeIs,?_⟩;refine wpAny_getItem_list_slice ht.isList hs pl pu .none (by simp) ?_ (by rw[List.size_toArray] <;> omega);rw[XS,<-hlen];refine⟨.ref s.heap.objs.size,_,I.laid (t':=s.toks) (o:=.lst (ik xs lo hi)) (λb ob q=>aY _ q) (aw _) ?_,rfl,q _ (I.aD.fresh (aw _))⟩;exact⟨cx (ND xs lo hi) hz,_,0,(r.drop (HT.cj xs.length 0 lo)).take (HT.cj xs.length xs.length hi-HT.cj xs.length 0 lo),dw _ rfl⟩
def rV:V->Bool
 | .aH=>c_
 | .bl _=>c_
 | .int _=>c_
 | .str _=>c_
 | _=>d_
def oW:V->V->Bool
 | .aH,.aH=>c_
 | .bl a,.bl b=>a == b
 | .bl a,.int b=>(if a then 1 else 0) == b
 | .int a,.bl b=>a == (if b then 1 else 0)
 | .int a,.int b=>a == b
 | .str a,.str b=>a == b
 | _,_=>d_
theorem ad3(ry:RelV y u)(rx:RelV x v)(fy:rV y=c_)(fx:rV x=c_):iF A s u v (oW y x):=by
 cases y with
 | aH=>
  cases ry;cases x with
  | aH=>cases rx;exact iF.same _
  | bl b=>cases rx;exact iF.none_bool b
  | int b=>obtain⟨t,rfl⟩:=rx;exact Xj b t
  | str b=>obtain⟨t,rfl⟩:=rx;exact iF.none_str b t
  | _=>exact absurd (show d_=c_ from fx) dO
 | bl a=>
  cases ry;cases x with
  | aH=>cases rx;exact iF.bool_none a
  | bl b=>cases rx;exact iF.bool_bool a b
  | int b=>obtain⟨t,rfl⟩:=rx;exact iF.bool_int a b t
  | str b=>obtain⟨t,rfl⟩:=rx;exact iF.bool_str a b t
  | _=>exact absurd (show d_=c_ from fx) dO
 | int a=>
  obtain⟨t',rfl⟩:=ry;cases x with
  | aH=>cases rx;exact Xk a t'
  | bl b=>cases rx;exact iF.int_bool a t' b
  | int b=>obtain⟨t,rfl⟩:=rx;exact iF.int_int a t' b t
  | str b=>obtain⟨t,rfl⟩:=rx;exact iF.int_str a t' b t
  | _=>exact absurd (show d_=c_ from fx) dO
 | str a=>
  obtain⟨t',rfl⟩:=ry;cases x with
  | aH=>cases rx;exact iF.str_none a t'
  | bl b=>cases rx;exact iF.str_bool a t' b
  | int b=>obtain⟨t,rfl⟩:=rx;exact iF.str_int a t' b t
  | str b=>obtain⟨t,rfl⟩:=rx;exact iF.str_str a t' b t
  | _=>exact absurd (show d_=c_ from fx) dO
 | _=>exact absurd (show d_=c_ from fy) dO
def sC(x:V)(u:f_):Bool:=match u with
 | .none=>oW .aH x
 | .bool b=>oW (.bl b) x
 | .int i _=>oW (.int i) x
 | .str z _=>oW (.str z) x
 | _=>d_
theorem Ro(r:RelV y u)(f:rV y=c_):sC x u=oW y x:=by
 cases y with
 | aH=>cases r;rfl
 | bl b=>cases r;rfl
 | int i=>obtain⟨t,rfl⟩:=r;rfl
 | str z=>obtain⟨t,rfl⟩:=r;rfl
 | _=>exact absurd (show d_=c_ from f) dO
theorem Iu:∀{xs:List V} {us:List f_},Vals xs us->xs.all rV=c_->us.any (sC x)=xs.any λy=>oW y x
 | _,_,.nil,_=>rfl
 | y::xs,u::us,.cons r t,f=>by
  rw[List.all_cons,nj]at f;rw[List.any_cons,List.any_cons,Ro r f.1,Iu t f.2]
theorem Hw(rx:RelV x v)(fx:rV x=c_):∀{xs:List V} {us:List f_},Vals xs us->xs.all rV=c_->∀u∈us,iF A s u v (sC x u)
 | _,_,.nil,_=>λu hu=>by cases hu
 | y::xs,u::us,.cons r t,f=>λu' hu=>by
  rw[List.all_cons,nj]at f;rcases List.mem_cons.mp hu with rfl | hu
  ·rw[Ro r f.1];exact ad3 r rx f.1 fx
  ·exact Hw rx fx t f.2 u' hu
def AY(x:V)(xs:List V):Bool:=xs.any λy=>oW y x
def rIn(K:u_)(neg:Bool):R2:=λx y H Q=>∃p xs,y=.ref p/\(ae K H p xs\/aB K H p xs)/\rV x=c_/\xs.all rV=c_/\Q (.bl (if neg then !AY x xs else AY x xs)) H
theorem Nr:dD X (fw .NotIn) (rIn X.K c_):=by
 intro p_ s σ H x y v u Q I rx ry h;obtain⟨p,xs,rfl,hq,fx,fs,q⟩:=h;cases ry;rcases hq with hq | hq
 ·obtain⟨its,r,pl,hz⟩:=I.list hq;refine SeqAt.notIn_listAt (sC x) pl.isList (λw hw=>Hw rx fx r fs w (by simpa using hw)) ⟨.bl _,H,I,rfl,?_⟩;rw[show its.toArray.any (sC x)=its.any (sC x) by simp,Iu r fs];exact q
 ·obtain⟨its,r,pl,hz⟩:=I.tuple hq;refine SeqAt.notIn_tupleAt (sC x) pl (λw hw=>Hw rx fx r fs w (by simpa using hw)) ⟨.bl _,H,I,rfl,?_⟩;rw[show its.toArray.any (sC x)=its.any (sC x) by simp,Iu r fs];exact q
theorem dP:jC X (.builtin "len") (λxs H Q=>∃p ys,xs=[.ref p]/\(ae X.K H p ys\/aB X.K H p ys)/\Q (.int ys.length) H):=by
 intro p_ s σ H xs us Q I r h;obtain⟨p,ys,rfl,hq,q⟩:=h;obtain⟨u,rfl,rx⟩:=vals1 r;cases rx;have hn:=Ar;rcases hq with hq | hq
 ·obtain⟨its,r',pl,hz⟩:=I.list hq;have hlen:=r'.length;exact Calls.call_len_list pl.isList (by simp only[List.size_toArray] <;> omega) ⟨.int ys.length,H,I.tok _,⟨s.toks+1,by rw[List.size_toArray,hlen]⟩,q⟩
 ·obtain⟨its,r',pl,hz⟩:=I.tuple hq;have hlen:=r'.length;exact len_tuple pl (by simp only[List.size_toArray] <;> omega) ⟨.int ys.length,H,I.tok _,⟨s.toks+1,by rw[List.size_toArray,hlen]⟩,q⟩
theorem Nu:jC X (.type "list") (λxs H Q=>∃p ys,xs=[.ref p]/\(ae X.K H p ys\/aB X.K H p ys)/\∀l,H l=b_->Q (.ref l) (upd H l (.lst ys))):=by
 intro p_ s σ H xs us Q I r h;obtain⟨p,ys,rfl,hq,q⟩:=h;obtain⟨u,rfl,rx⟩:=vals1 r;cases rx
 have fin:∀(its:List f_),Vals ys its->ys.length<=a9->∀(h':j_) (c':Nat),(∀b o',s.heap.get? b=a_ o'->h'.get? b=a_ o')->
   h'.get? s.heap.objs.size=a_ { cls:=.type "list",dict:=b_,data:=.seq its.toArray c',slots:=#[] }->EP X p_ σ Q (.ref s.heap.objs.size) { s with heap:=h' }:=λits r' hz h' c' kp e=>
  ⟨.ref s.heap.objs.size,_,I.laid (t':=s.toks) kp (aw _) (show de X.prog X.w _ h' _ (.lst ys) from ⟨hz,its,c',r',e⟩),rfl,q _ (I.aD.fresh (aw _))⟩
 rcases hq with hq | hq
 ·obtain⟨its,r',pl,hz⟩:=I.list hq;have hlen:=r'.length;obtain⟨o,ho,hc,n,hd⟩:=pl.isList;exact call_list_seq p (.inl rfl) ho hc hd (λh' c' kp e=>fin its r' hz h' c' kp e) (by simp only[List.size_toArray] <;> omega)
 ·obtain⟨its,r',pl,hz⟩:=I.tuple hq;have hlen:=r'.length;obtain⟨o,ho,hc,n,hd⟩:=pl;exact call_list_seq p (.inr rfl) ho hc hd (λh' c' kp e=>fin its r' hz h' c' kp e) (by simp only[List.size_toArray] <;> omega)
theorem zJ:jC X (.type "tuple") (λxs H Q=>∃p ys,xs=[.ref p]/\((ae X.K H p ys/\∀l,H l=b_->Q (.ref l) (upd H l (.tup ys)))\/(aB X.K H p ys/\Q (.ref p) H))):=by
 intro p_ s σ H xs us Q I r h;obtain⟨p,ys,rfl,h⟩:=h;obtain⟨u,rfl,rx⟩:=vals1 r;cases rx;rcases h with ⟨hq,q⟩ | ⟨hq,q⟩
 ·obtain⟨its,r',pl,hz⟩:=I.list hq;have hlen:=r'.length;refine call_tuple_list pl.isList (λh' kp=>?_) (by simp only[List.size_toArray] <;> omega);have I1:=I.kept (t':=s.toks) kp
  have I2:Inv X p_ σ (upd H h'.objs.size (.tup ys)) { s with heap:=h'.push { cls:=.type "tuple",data:=.seq its.toArray } }:=
   I1.laid (t':=s.toks) (λb o e=>aY _ e) (aw _) (show de X.prog X.w _ _ _ (.tup ys) from ⟨hz,its,r',ON _ _⟩)
  exact⟨.ref h'.objs.size,_,I2,rfl,q _ (I1.aD.fresh (aw _))⟩
 ·obtain⟨its,r',pl,hz⟩:=I.tuple hq;exact call_tuple_same pl ⟨.ref p,H,I,rfl,q⟩
def TU(K:u_)(T:String)(x:V)(H:Hp):Prop:=match x with
 | .str _=>T = "str"
 | .int _=>T = "int"
 | .ref p=>(T = "list"/\∃xs,ae K H p xs)\/(T = "tuple"/\∃o,K.lookup p=a_ o/\o.cls=.type "tuple"/\o.dict=b_)\/
   (T = "dict"/\((∃kvs,H p=a_ (.dK kvs))\/∃kvs,H p=a_ (.dT kvs)))\/(T = "set"/\∃S n,H p=a_ (.set S n))
 | _=>False
theorem acP{T:String}(I:Inv X p_ σ H s)(r:RelV x v)(ty:TU X.K T x H) :
  s.TypeIs v T/\∀a,v=.ref a->∃ob,s.heap.get? a=a_ ob/\ob.dict=none:=by
 cases x with
 | str z=>
  obtain⟨t,rfl⟩:=r;cases (show T = "str" from ty);exact⟨typeIs_str s z t,λ_ e=>nomatch e⟩
 | int i=>
  obtain⟨t,rfl⟩:=r;cases (show T = "int" from ty);exact⟨typeIs_int s i t,λ_ e=>nomatch e⟩
 | ref p=>
  cases r;rcases ty with ⟨rfl,xs,hq⟩ | ⟨rfl,o,hk,hc,hd⟩ | ⟨rfl,hk⟩ | ⟨rfl,S,n,hk⟩
  ·obtain⟨its,_,pl,_⟩:=I.list hq;refine⟨pl.isList.typeIs,λa e=>?_⟩;cases e;obtain⟨o,n,e,c,hd,_⟩:=pl;exact⟨o,e,hd⟩
  ·refine⟨⟨o,I.eD p o hk,hc⟩,λa e=>?_⟩;cases e;exact⟨o,I.eD _ o hk,hd⟩
  ·have z:∃o,s.heap.get? p=a_ o/\o.ExactDict:=by
    rcases hk with ⟨kvs,hk⟩ | ⟨kvs,hk⟩
    ·obtain⟨_,_,_,_,o,_,_,e,ex,_⟩:=I.aD p _ hk;exact⟨o,e,ex⟩
    ·obtain⟨_,_,_,_,o,_,_,e,ex,_⟩:=I.aD p _ hk;exact⟨o,e,ex⟩
   obtain⟨o,e,ex⟩:=z;refine⟨⟨o,e,ex.1⟩,λa e2=>?_⟩;cases e2;exact⟨o,e,ex.2.1⟩
  ·obtain⟨o,_,_,_,e,ex,_⟩:=I.aD p _ hk;refine⟨⟨o,e,ex.1⟩,λa e2=>?_⟩;cases e2;exact⟨o,e,ex.2.1⟩
 | _=>exact lU ty
abbrev tBM(K:u_)(T:String)(r:V->List V->Hp->VK->Prop)(to:TE)(t:TA):TE:=λσ H Q=>to σ H λx H1=>TU K T x H1/\t σ H1 λxs H2=>r x xs H2 Q
variable{o e:Expr}{es:List Expr}{to:TE}{t:TA}{name:Str}{apos fU:Pos}{T id:String}{r:V->List V->Hp->VK->Prop}
theorem iK(pa:PlainAttrs T)(slot:Slot T name id)(hty:typeOf (.builtin id)=pure (.type "method_descriptor"))(hm:MtR X id r)(ho:PE X o to)(ha:PA X (e::es) t)
  (agu:zL o name X.env (eval o X.env)=eval o X.env:=by rfl)
  (yF:((backTo fU (cA (e::es) X.env)).all (λx=>!x.1)&&(yb fU (xM [] X.env)).all (λx=>x.1.isSome)
   && decide ((e::es).length+([]:List Keyword).length+(if ([]:List Keyword).isEmpty then 0 else 1)<30))=true:=by rfl)
  (agq:(apos.endLine == fU.line)=true:=by rfl) (hs:cA (e::es) X.env=(d_,eval e X.env)::cA es X.env:=by rfl) (aet:(backTo fU (cA es X.env)).any (·.1)=false:=by rfl) :
  PE X (.Call (.Attribute o name apos) (e::es) [] fU) (tBM X.K T r to t):=by
 intro p_ s σ H Q I h;refine wpAny_Call_method_late agu yF agq rfl (aI (ho p_ s σ H _ I h) λv s1 ⟨x,H1,I1,r1,ty,q1⟩=>?_);obtain⟨h1,h2⟩:=acP I1 r1 ty;refine⟨T,id,pa,slot,hty,h1,h2,?_⟩;have hA:=ha fU p_ s1 σ H1 _ I1 q1;rw[hs]at hA ⊢;refine Ft (by show (d_||(backTo fU (cA es X.env)).any (·.1))=d_;rw[aet] <;> rfl) (Fu ?_);exact aI hA λus s2 ⟨vs,H2,I2,r2,q2⟩=>hm p_ s2 σ H2 x vs v us Q I2 r1 r2 q2
end
def Er(X:Cx)(id:String)(r:V->List V->Hp->VK->Prop):Prop:=
 ∀(p_:List (e_×Obj)) (s:g_) (σ:St) (H:Hp) (x:V) (xs:List V) (v:f_) (us:List f_) (Q:VK),Inv X p_ σ H s->RelV x v->Vals xs us->r x xs H Q->
  wpAny (model X.prog X.w) X.A (call (.builtin id) (v::us)) (EP X p_ σ Q) X.xe s
theorem Vals.one:∀{x:V} {us:List f_},Vals [x] us->∃u,us=[u]/\RelV x u
 | _,_,.cons r .nil=>⟨_,rfl,r⟩
theorem Vals.eraseIdx:∀{xs:List V} {us:List f_} (i:Nat),Vals xs us->Vals (xs.eraseIdx i) (us.eraseIdx i)
 | _,_,_,.nil=>.nil
 | _,_,0,.cons _ t=>t
 | _,_,i+1,.cons r t=>.cons r (Vals.eraseIdx i t)
theorem Vals.rep(h:Vals xs us):∀k:Nat,Vals (List.replicate k xs).flatten (List.replicate k us).flatten
 | 0=>.nil
 | k+1=>by
  rw[List.replicate_succ,List.replicate_succ,List.flatten_cons,List.flatten_cons];exact Vals.append h (Vals.rep h k)
theorem OA{α:Type}:∀(l:List α) (i:Nat),(l.eraseIdx i).length<=l.length
 | [],_=>aw _
 | _::_,0=>kJ _
 | _::r,i+1=>qX (OA r i)
theorem foldl_rep(its:List f_):∀(k:Nat) (acc:List f_),List.foldl (λx1 x2=>x1++x2) acc.toArray (List.replicate k its.toArray)=(acc++(List.replicate k its).flatten).toArray
 | 0,acc=>by simp
 | k+1,acc=>by
  have e:acc.toArray++its.toArray=(acc++its).toArray:=by simp
  have e2:(acc++its)++(List.replicate k its).flatten=acc++(List.replicate (k+1) its).flatten:=by
   rw[List.replicate_succ,List.flatten_cons,List.append_assoc]
  rw[<-e2,<-foldl_rep its k (acc++its),<-e,List.replicate_succ,List.foldl_cons]
section
variable{X:Cx}{p_:List (e_×Obj)}{σ:St}{H:Hp}{s:g_}{l b:e_}{xs ys zs:List V}
theorem Inv.DJ{its jH:List f_}{n:Nat}{f:Array f_->Array f_}{t':Nat}(I:Inv X p_ σ H s)(hH:H l=a_ (.lst xs))
  (e:s.heap.get? l=a_ { cls:=.type "list",data:=.seq its.toArray n }) (hf:f its.toArray=jH.toArray) (hv:Vals ys jH) (hz:ys.length<=a9) :
  Inv X p_ σ (upd H l (.lst ys)) { s with heap:=s.heap.update l (kM f),toks:=t' }:=by
 have q:=PySem.IsL.update e f;rw[hf]at q;refine I.write (x:=l) (e:=l) (by rw[hH];exact trivial) (.inl rfl) (λb' u hb hu=>(Xb s.heap (kM f) (cB hb)).trans hu) ⟨_,q⟩ ?_;exact⟨hz,jH,_,hv,q⟩
theorem Inv.SE{t':Nat}(I:Inv X p_ σ H s)(hv:Vals ys its)(hz:ys.length<=a9) :
  Inv X p_ σ (upd H s.heap.objs.size (.lst ys)) { s with heap:=s.heap.push { cls:=.type "list",data:=.seq its.toArray },toks:=t' }:=
 I.laid (λ_ _ q=>aY _ q) (aw _) ⟨hz,its,0,hv,dw _ rfl⟩
theorem Inv.fresh(I:Inv X p_ σ H s):H s.heap.objs.size=none:=I.aD.fresh (aw _)
theorem Inv.mm(I:Inv X p_ σ H s)(hH:H l=a_ (.lst xs)):xs.length<=a9/\∃(its:List f_) (n:Nat),Vals xs its/\xs.length=its.length/\s.heap.get? l=a_ { cls:=.type "list",data:=.seq its.toArray n }:=by
 obtain⟨z,its,n,r,e⟩:=I.aD l _ hH;exact⟨z,its,n,r,r.length,e⟩
theorem Pc{n:Nat}(h:n<=a9):Fs n=false:=by
 unfold Fs;exact decide_eq_false om
end
section
variable{X:Cx}
def abW:V->List V->Hp->VK->Prop:=λx vs H Q=>∃l xs y,x=.ref l/\vs=[y]/\H l=a_ (.lst xs)/\xs.length<a9/\Q .aH (upd H l (.lst (xs++[y])))
theorem lV:Er X "list.append" abW:=by
 intro p_ s σ H x vs v us Q I rx rv h;obtain⟨l,xs,y,rfl,rfl,hH,hz,q⟩:=h;cases rx;obtain⟨u,rfl,ru⟩:=rv.one;obtain⟨z,its,n,r,hl,e⟩:=I.mm hH;refine xR F.slot_list_append ⟨_,e,rfl⟩ F.entry_list_append (F.args_list_append_2 _ _) (PySem.list_append l its.toArray n u (by rw[List.size_toArray];omega)) ⟨e,⟨.aH,_,I.DJ (jH:=its++[u]) hH e (by simp) (r.append (.cons ru .nil)) ?_,rfl,q⟩⟩;rw[List.length_append,List.length_singleton];omega
def abU:V->List V->Hp->VK->Prop:=λx vs H Q=>∃l b xs zs,x=.ref l/\vs=[.ref b]/\H l=a_ (.lst xs)/\H b=a_ (.lst zs)/\xs.length+zs.length<=a9/\Q .aH (upd H l (.lst (xs++zs)))
theorem Cf:Er X "list.extend" abU:=by
 intro p_ s σ H x vs v us Q I rx rv h;obtain⟨l,b,xs,zs,rfl,rfl,hH,hB,hz,q⟩:=h;cases rx;obtain⟨u,rfl,ru⟩:=rv.one;cases ru;obtain⟨z,its,n,r,hl,e⟩:=I.mm hH;obtain⟨z2,sh,n2,r2,jc,e2⟩:=I.mm hB;have hsz:its.toArray.size+sh.toArray.size<=a9:=by rw[List.size_toArray,List.size_toArray];omega
 have JW:¬(!its.toArray.isEmpty&&Fs (its.toArray.size+sh.toArray.size))=true:=by
  rw[Pc hsz,Bool.and_false];exact dO
 refine xR F.slot_list_extend ⟨_,e,rfl⟩ F.entry_list_extend (F.args_list_extend_2 _ _)
  (AutoSeq1.list_extend_list_list_0 l its.toArray n b sh.toArray n2 JW (by rw[List.size_toArray];omega) om) ⟨e,e2,?_⟩
 refine⟨.aH,_,I.DJ (jH:=its++sh) hH e (by simp) (r.append r2) ?_,rfl,q⟩;rw[List.length_append];omega
def adf:V->List V->Hp->VK->Prop:=λx vs H Q=>∃l xs i k y,x=.ref l/\vs=[.int i]/\H l=a_ (.lst xs)/\-(2^63)<=i/\i<2^63/\G0 i xs.length=a_ k/\xs[k]?=a_ y/\Q y (upd H l (.lst (xs.eraseIdx k)))
theorem aaH:Er X "list.pop" adf:=by
 intro p_ s σ H x vs v us Q I rx rv h;obtain⟨l,xs,i,k,y,rfl,rfl,hH,h1,h2,hk,hy,q⟩:=h;cases rx;obtain⟨u,rfl,ru⟩:=rv.one;obtain⟨t,rfl⟩:=ru;obtain⟨z,its,n,r,hl,e⟩:=I.mm hH;obtain⟨w,hw,gU⟩:=r.get hy
 refine xR F.slot_list_pop ⟨_,e,rfl⟩ F.entry_list_pop (F.args_list_pop_2 _ _)
  (MeetsSeq.list_pop_at l its.toArray n i t k w (fitsIndex_both h1 h2) (by rw[List.size_toArray,<-hl];exact hk) (by rw[<-pN];exact hw) (by rw[List.size_toArray];omega)) ⟨e,?_⟩
 refine⟨y,_,I.DJ (jH:=its.eraseIdx k) hH e ?_ (r.eraseIdx k) ?_,gU,q⟩
 ·show its.toArray.eraseIdxIfInBounds k=(its.eraseIdx k).toArray;rw[List.eraseIdxIfInBounds_toArray]
 ·have:=OA xs k;omega
def agV:R2:=λx y H Q=>∃l b xs zs,x=.ref l/\y=.ref b/\H l=a_ (.lst xs)/\H b=a_ (.lst zs)/\xs.length+zs.length<=a9/\∀p,H p=b_->Q (.ref p) (upd H p (.lst (xs++zs)))
theorem yk:dD X (rF .Add) agV:=by
 intro p_ s σ H x y v u Q I rx ry h;obtain⟨l,b,xs,zs,rfl,rfl,hH,hB,hz,q⟩:=h;cases rx;cases ry;obtain⟨z,its,n,r,hl,e⟩:=I.mm hH;obtain⟨z2,sh,n2,r2,jc,e2⟩:=I.mm hB;refine PySem.P.add_list e e2 ?_ (by rw[List.size_toArray,List.size_toArray];omega);have ea:its.toArray++sh.toArray=(its++sh).toArray:=by simp
 rw[ea];exact⟨.ref _,_,I.SE (t':=s.toks) (r.append r2) (by rw[List.length_append];omega),rfl,q _ I.fresh⟩
def agT:R2:=λx y H Q=>∃l k xs,x=.ref l/\y=.int k/\H l=a_ (.lst xs)/\-(2^63)<=k/\k<2^63/\xs.length*k.toNat<=a9/\
 ∀p,H p=b_->Q (.ref p) (upd H p (.lst (List.replicate k.toNat xs).flatten))
theorem len_rep{α:Type}(xs:List α)(k:Nat):(List.replicate k xs).flatten.length=k*xs.length:=by
 induction k with
 | zero=>simp
 | succ k ih=>rw[List.replicate_succ,List.flatten_cons,List.length_append,ih,F',Nat.add_comm]
theorem IY:dD X (rF .Mult) agT:=by
 intro p_ s σ H x y v u Q I rx ry h;obtain⟨l,k,xs,rfl,rfl,hH,h1,h2,hz,q⟩:=h;cases rx;obtain⟨t,rfl⟩:=ry;obtain⟨z,its,n,r,hl,e⟩:=I.mm hH;have hlen:its.toArray.size*k.toNat<=a9:=by rw[List.size_toArray,<-hl];exact hz
 have ah2:¬its.toArray.size*k.toNat > (2^63-1)/8:=by
  have:(a9:Nat)<=(2^63-1)/8:=qc;omega
 have ahX:¬(!Builtin.List.listFitsIndex k)=true:=by
  rw[fitsIndex_both h1 h2];exact dO
 have JW:¬Fs (its.toArray.size*k.toNat)=true:=by
  rw[Pc hlen];exact dO
 have AQ:List.foldl (λx1 x2=>x1++x2) #[] (List.replicate (if its.toArray.isEmpty=c_ then 0 else k.toNat) its.toArray)=(List.replicate k.toNat its).flatten.toArray:=by
  have f0:∀m:Nat,List.foldl (λx1 x2=>x1++x2) #[] (List.replicate m its.toArray)=(List.replicate m its).flatten.toArray:=λm=>by
   have:=foldl_rep its m [];rw[List.nil_append]at this;exact this
  rw[f0];cases its with
  | nil=>simp
  | cons a r'=>rw[if_neg (by simp)]
 refine wpAny_binaryOp_repeat_ref (T:="list") (U:="int") qc ⟨_,e,rfl⟩ (λs'=>typeIs_int s' k t) noFill_list_mul F.fills_int_mul F.slot_int_rmul repeat_list F.slot_int_index.lookup
  (xR F.slot_int_rmul (typeIs_int s k t) F.entry_int_rmul (F.args_int_rmul_2 _ _) (int___rmul___int_list k t l its.toArray n) ⟨e,rfl,⟨_,e,rfl⟩,xR F.slot_list_mul ⟨_,e,rfl⟩ F.entry_list_mul (F.args_list_mul_2 _ _) (AutoListH.list___mul___list_int_3 l its.toArray n k t ahX ah2 JW) ⟨e,?_⟩⟩)
 rw[AQ];exact⟨.ref _,_,I.SE (t':=s.toks) (r.rep k.toNat) (by rw[len_rep,Nat.mul_comm];exact hz),rfl,q _ I.fresh⟩
end
section
variable{prog:l_}{w:k_}{A:h_}{E:f_->g_->Prop}{s:g_}
end
end L2
namespace Att
open PySem.W PySem.Calls
theorem XD{P:Params}:∀(ns:List Int) (vs:List f_),WellAll P h vs (ns.map WData.int)->IntsAre vs ns:=by
 intro ns
 induction ns with
 | nil=>
  intro vs w;rw[List.map_nil]at w;cases w;exact .nil
 | cons n ns ih=>
  intro vs w;rw[List.map_cons]at w;cases w with
  | cons a b=>
   cases a;exact .cons _ _ (ih _ b)
theorem Y2{l:OpenLaw}{n:Nat}(hn:l.most=a_ n){P:Params}{args:List WData}
  (DX:l.row.toRowW.claim.pre args=c_) (jN:WellAll P h vals args) :
  ∃a vs ns,vals=[cR a]/\args=[WData.list (ns.map WData.int)]/\h.get? a=a_ { cls:=.type "list",data:=.seq vs.toArray }/\IntsAre vs ns/\ns.length<=n:=by
 have hsh:WShape.hasAll [] args [.list .int]=true:=(pre_splitW DX).1;have hc:l.pre.holds [] { args:=args }=true:=(pre_splitW DX).2;obtain⟨d,r,rfl,h1,h2⟩:=hasAllW_cons hsh;obtain rfl:=hasAllW_nil h2;obtain⟨xs,rfl,h3⟩:=hasW_list h1;obtain⟨ns,rfl⟩:=items_int h3
 have hlen:ns.length<=n:=by
  unfold OpenLaw.pre at hc
  have h4:(WTm.not (.lt (.lit (.int (n:Int))) (.len (.arg 0)))).holds [] { args:=[.list (ns.map .int)] }=true:=by
   have h4:=(holds_andW hc).1;rw[hn]at h4;exact h4
  have h5:=condW_of h4 (w_not (w_lt w_lit (w_len_list (w_arg rfl))));rw[List.length_map]at h5;refine Nat.le_of_not_lt λq=>?_;have q':(n:Int)<((ns.length:Nat):Int):=om
  first
   | (rw[decide_eq_true q']at h5;exact absurd h5 qc)
   | (simp at h5;omega)
 cases jN with
 | cons w1 w2=>
  cases w2;cases w1 with
  | list ho ah6=>exact⟨_,_,ns,rfl,rfl,ho,XD ns _ ah6,hlen⟩
theorem Y7(l:OpenLaw)(args:List WData):l.row.toRowW.claim.post args (.bool c_) args=true:=
 postW_of (r:=l.row.toRowW) (X:=(c_ == c_))
  (show WShape.has [] (.bool c_) .bool=c_ by first | rfl | decide | simp[WShape.has,WShape.arms,WShape.armsAll])
  (show (WTm.eq .res (.lit (.bool c_))).value [] { args:=args,res:=a_ (.bool c_),after:=args }=a_ (.bool (c_ == c_)) from w_eq_bool (w_res rfl) w_lit) rfl
theorem Yc{l:OpenLaw}{n:Nat}{XP:(Str->Option f_)->j_->Prop}{YP:k_->j_->Prop}{d:DefRec}
  (hn:l.most=a_ n) (L8:d.params.defaults=[])
  (call:∀(w:k_) (s₀ s₁:g_) (mg mb:Str->Option f_) (fa:e_) (o:Obj) (pm cd doc:f_) (a:e_) (vs:List f_) (ns:List Int),Ground q loose [] XP w s₀ mg mb s₁.heap->YP w s₁.heap->
   s₁.heap.get? fa=a_ o->o.data=.func (docDef d.name d.params d.body d.scope pm cd doc)->s₁.heap.CodeRec cd d.name->mg d.name=a_ (.ref fa)->
   s₁.heap.get? a=a_ { cls:=.type "list",data:=.seq vs.toArray }->IntsAre vs ns->ns.length<=n->s₁.gens=#[]->
   codeAny (model l.prog w) callerA (.call (.ref fa) ⟨[.ref a],[]⟩) (λr s'=>r=.ok (.ret (.bool c_))/\OldK s₁.heap s'.heap/\s'.os=s₁.os/\AllBare s'.gens) s₁) :
  WalkO q loose XP YP l.row.toRowW d [] (λf vs=>PySem.call f vs):=by
 intro w s₀ s₁ mg mb G Y fa o pm cd doc dV kV ho hd iD hD za hg args vals as DX ajf hrd jN kx;obtain rfl:dV=.none:=Dflts.none hD L8;obtain rfl:kV=.none:=Dflts.noKw hD;obtain⟨a,vs,ns,rfl,rfl,Ku,hints,hlen⟩:=Y2 hn DX jN;refine enter_call (zO (call w s₀ s₁ mg mb fa o pm cd doc a vs ns G Y ho (fd_plain hd) iD za Ku hints hlen hg) λr s' hq=>?_);obtain⟨rfl,h2,h3,h4⟩:=hq;exact⟨.inl ⟨.bool c_,.bool c_,[],rfl,λ_=>rfl,.bool c_,Y7 l _,λ_=>⟨List.Pairwise.nil,λ_ hm=>(nomatch hm)⟩⟩,h2,h3,h4⟩
end Att
namespace L2
theorem N':∀{vs:List f_} {ns:List Int},IntsAre vs ns->Vals (ns.map V.int) vs
 | _,_,.nil=>.nil
 | _,_,.cons n t h=>.cons ⟨t,rfl⟩ (N' h)
abbrev ay:pe:=λ_ _ _ _ _ _=>False
abbrev E0:XK:=λ_ _ _=>False
theorem aT{X:Cx}:Passes ay X E0:=λ_ _ _ _ _ _ _ h=>h.elim
structure aU(K:u_)(x qual:Str)(st:Stmt)(f:e_)(fd:lW):Prop where
 ex:∃(oc:f_) (od:Option e_) (kV doc pm:f_) (an:Option e_) (aL ct:f_) (iz:Array (Option f_)),fd=B_ x qual (jz st) (iG st) (aR st) .none kV doc pm an aL ct/\K.lookup f=a_ ⟨oc,od,.func fd,iz⟩/\W.codeIn K aL qual=c_
 kp:x_ K (.ref f)=c_
section
variable{P:l_}{w:k_}{K:u_}{mg:Str->Option f_}{base:j_}
theorem aU.ok{st:Stmt}{k:Nat}{sp:Sp}(F:aU K x qual st f fd)(S:bf N ps (aR st))
  (v5:∀(aL:f_) (A:h_) (outer:List Env) (s:g_) (H:Hp) (vs:List V) (Q:VK) (E:XK),eJ k (A.deeper (envOfC qual (aR st) s.heap.objs.size f aL))->sp vs H Q E->
   ∃t,fg (um ay P w K mg base N qual (aR st) f aL A outer s H E).uE (iG st) t/\t { nx:=λ_ H'=>Q .aH H',rt:=Q } (start N vs) H) (len:∀vs H Q E,sp vs H Q E->vs.length=ps.length:=by intro _ _ _ _ h;(repeat obtain⟨_,h⟩:=h);subst_vars;rfl):ax P w K mg base ay (k+1) f fd ps sp:=by
 obtain⟨oc,od,kV,doc,pm,an,aL,ct,iz,rfl,lk,iD⟩:=F.ex;refine vZ lk iD S len λA outer s H vs Q E hr qL=>?_;obtain⟨t,h,q⟩:=v5 aL A outer s H vs Q E hr qL;exact⟨t,h.uE,q⟩
theorem aU.binds{st:Stmt}(F:aU K x qual st f fd)
  (h:∀(kV doc pm:f_) (an:Option e_) (aL ct:f_) (us:List f_),us.length=ps.length->rE (B_ x qual (jz st) (iG st) (aR st) .none kV doc pm an aL ct) ⟨us,[]⟩=pure (ps.zip us)):Binds K fd ps []:=by
 obtain⟨oc,od,kV,doc,pm,an,aL,ct,iz,rfl,lk,iD⟩:=F.ex;exact .all (h kV doc pm an aL ct)
theorem Rl{st:Stmt}{od an:Option e_}{iz:Array (Option f_)}{kV doc pm aL ct:f_}(l:K.lookup f=a_ ⟨oc,od,.func (B_ x qual (jz st) (iG st) (aR st) .none kV doc pm an aL ct),iz⟩)
  (c:W.codeIn K aL qual=c_) (k:x_ K (.ref f)=c_):aU K x qual st f (B_ x qual (jz st) (iG st) (aR st) .none kV doc pm an aL ct):=⟨⟨oc,od,kV,doc,pm,an,aL,ct,iz,rfl,l,c⟩,k⟩
end
theorem f7{n:Nat}(h:n<=1000):n<a9:=tm h qc
section
variable{X:Cx}
theorem pv(i:Nat)(hN:X.N[i]?=a_ x:=by rfl)(hv:K7 X.env.scope x:=by first | exact aF rfl | exact tT (aF rfl) | exact tT (tT rfl))(hd:(x == ("__debug__" : Str))=false:=by decide)
  (iD:(x == ("__classdict__" : Str))=false:=by decide):PE X (.Name x pos) (qt i):=adh hN hv hd iD
end
theorem dJ{A B:Prop}(h:B):if d_=c_ then A else B:=by
 rw[if_neg dO];exact h
theorem r6{A B:Prop}(h:A):if c_=c_ then A else B:=by
 rw[if_pos rfl];exact h
theorem RY{c A B:Prop}[Decidable c](hc:c)(h:B):if (!decide c)=c_ then A else B:=by
 rw[decide_eq_true hc];exact dJ h
def ah(H H':Hp):Prop:=∀b o,H b=a_ o->H' b=a_ o
theorem ah.refl(H:Hp):ah H H:=λ_ _ h=>h
theorem ah.trans(a:ah H H1)(b:ah H1 H2):ah H H2:=λc o h=>b c o (a c o h)
theorem ah.free(e:ah H H')(h:H' l=Option.none):H l=Option.none:=by
 cases q:H l with
 | none=>rfl
 | some o=>
  rw[e l o q]at h;cases h
section
variable{K:u_}{σ:St}{H:Hp}{Q:VK}{p C dx:e_}{xs:List V}{v:V}{i:Nat}{j:Int}{fs:List (Str×V)}{f:Str}
theorem vr(h:σ[i]?=a_ (a_ v))(q:Q v H):qt i σ H Q:=⟨v,h,q⟩
theorem rT(s:aB K H p xs)(a:eU xs j=a_ v)(q:Q v H):AI K (.ref p) (.int j) H Q:=⟨_,_,_,_,rfl,rfl,s,a,q⟩
theorem rL(s:ae K H p xs)(a:eU xs j=a_ v)(q:Q v H):yu K (.ref p) (.int j) H Q:=⟨_,_,_,_,rfl,rfl,s,a,q⟩
theorem cL(s:ae K H p xs)(a:eU xs j=a_ v)(q:Q v H):tC (.int j) σ H λy H2=>yu K (.ref p) y H2 Q:=⟨_,_,_,_,rfl,rfl,s,a,q⟩
theorem vT(h:σ[i]?=a_ (a_ (.ref p)))(s:aB K H p xs)(a:eU xs j=a_ v)(q:Q v H):wz (AI K) (qt i) (tC (.int j)) σ H Q:=⟨_,h,_,_,_,_,rfl,rfl,s,a,q⟩
theorem vL(h:σ[i]?=a_ (a_ (.ref p)))(s:ae K H p xs)(a:eU xs j=a_ v)(q:Q v H):wz (yu K) (qt i) (tC (.int j)) σ H Q:=⟨_,h,_,_,_,_,rfl,rfl,s,a,q⟩
theorem vF(h:σ[i]?=a_ (a_ (.ref p)))(e:H p=a_ (.ins C dx fs))(c:fq K C)(n:cV K C f)(l:fs.lookup f=a_ v)(q:Q v H):J1 K (qt i) f σ H Q:=⟨_,h,_,_,_,_,_,rfl,e,c,n,l,q⟩
theorem vM{sp:Sp}{t:TA}(h:σ[i]?=a_ (a_ (.ref p)))(e:H p=a_ (.ins C dx fs))(l:fs.lookup m=b_)(q:t σ H λvs H2=>sp (.ref p::(vs++dvs)) H2 Q E):Jm C m sp dvs E (qt i) t σ H Q:=⟨_,h,_,_,_,rfl,e,l,q⟩
end
section
variable{K:u_}{σ:St}{H:Hp}{Q:VK}{p C dx:e_}{v:V}{fs:List (Str×V)}{f:Str}
theorem rM{R:Prop}(e:H p=a_ (.ins C dx fs))(l:fs.lookup m=b_)(q:R):∃a dx fs,V.ref p=.ref a/\H a=a_ (.ins C dx fs)/\fs.lookup m=b_/\R:=⟨_,_,_,rfl,e,l,q⟩
theorem tk{R:Bool->Prop}{k:Bool}(q:R k):∃k',V.bl k=.bl k'/\R k':=⟨k,rfl,q⟩
theorem rq{R:Bool->Prop}(s:DH x y=c_)(q:R (decide (x=y))):TZ x y H λz _=>∃k,z=.bl k/\R k:=⟨s,_,rfl,q⟩
end
theorem sj{X:Cx}{ss:List Stmt}{t:TS}(h:fg X ss t)(q:t D σ H):∃t,fg X ss t/\t D σ H:=⟨t,h,q⟩
section
variable{K:u_}{σ:St}{H:Hp}{Q:VK}{p:e_}{xs:List V}{v:V}{i j:Nat}
theorem gj(h:σ[i]?=a_ (a_ (.ref p)))(e:H p=a_ (.tup xs))(a:xs[j]?=a_ v)(q:Q v H):wz (AI K) (qt i) (tC (.int (j:Int))) σ H Q:=vT h (aB.of e) (cX a) q
theorem cl1(e:H p=a_ (.lst xs))(a:xs[j]?=a_ v)(q:Q v H):tC (.int (j:Int)) σ H λy H2=>yu K (.ref p) y H2 Q:=cL (σ:=σ) (ae.of e) (cX a) q
end
end L2
namespace L3
def tests(ifs:List Expr)(env:Env):Sem Bool:=
 forIn ifs c_ λc r=>if r=c_ then (do let ok <-isTrue c env (eval c env);pure (FL ok)) else pure (FL r)
section
variable{prog:l_}{w:k_}{A:h_}{R:Result->g_->Prop}{s:g_}
theorem ZK{ifs:List Expr}{sc:i_}{env:Env}(J:Nat->g_->Prop)
  (Ml:∀e s',EE e s'->notedBy (model prog w) A env (λe s'=>R (.error e) s') e s')
  (turn:∀n s,J n s->wpAny (model prog w) A (pyNext it) (λr s₁=>(r=b_->R (.ok .next) s₁)/\∀v,r=a_ v->
   wpAny (model prog w) A (FG tg it v) (λ_ s₂=>wpAny (model prog w) A (assign tg env v) (λ_ s₃=>wpAny (model prog w) A (tests ifs env) (λok s₄=> (ok=c_->wpAny (model prog w) A (eval elt env) (λx s₅=>wpAny (model prog w) A (call (.builtin "list.append") [acc,x]) (λ_ s₆=>∃m,m<n/\J m s₆) EE s₅) EE s₄)/\ (ok=d_->∃m,m<n/\J m s₄)) EE s₃) EE s₂) EE s₁) EE s)
  (n:Nat) (h:J n s):codeAny (model prog w) A (.compLoop (.ListComp elt [⟨tg,iter,ifs,0⟩] sc pos) 0 it acc env) R s:=by
 refine codeAny_loop rfl J (λn s hJ=>?_) n h;show wpAny _ A ((compTurn (.ListComp elt [⟨tg,iter,ifs,0⟩] sc pos) 0 it acc env).onRaise _) _ _ s;refine wpAny_noted (gG (E:=EE) ?_ (λ_ _ q=>q) λe s' q=>Ml e s' q);rw[compTurn_list];refine aj (Nl (aj (gG (turn n s hJ) (λr s₁ h₁=>?_) λ_ _ q=>q)));cases r with
 | none=>exact aM (h₁.1 rfl)
 | some v=>
  refine aj (gG (h₁.2 v rfl) (λ_ s₂ h₂=>?_) λ_ _ q=>q);refine aj (gG h₂ (λ_ s₃ h₃=>?_) λ_ _ q=>q);refine aj (gG h₃ (λok s₄ h₄=>?_) λ_ _ q=>q);cases ok with
  | false=>exact aM ⟨rfl,h₄.2 rfl⟩
  | true=>
   refine aj (aj (gG (h₄.1 rfl) (λx s₅ h₅=>?_) λ_ _ q=>q));exact aj (gG h₅ (λ_ s₆ h₆=>aM (aM ⟨rfl,h₆⟩)) λ_ _ q=>q)
theorem YY{env:Env}{Q:Bool->g_->Prop}(h:Q c_ s):wpAny (model prog w) A (tests [] env) Q E s:=aM h
theorem YX{env:Env}{Q:Bool->g_->Prop}(h:wpAny (model prog w) A (isTrue c env (eval c env)) Q E s):wpAny (model prog w) A (tests [c] env) Q E s:=by
 unfold tests;rw[List.forIn_cons];exact aj (aj (gG h (λok s' q=>aM (aM q)) λ_ _ q=>q))
def ff(cells:List (Str×e_)):List (Str×eI)->List (Str×e_)->List (Str×e_)
 | [],acc=>acc
 | (n,k)::r,acc=>if k == .free then ff cells r (match cells.lookup n with | some c=>(n,c)::acc | none=>acc) else ff cells r acc
theorem N5{env:Env}:∀(names:List (Str×eI)) (acc:List (Str×e_)),(∀p∈names,p.2=.free->∃c,env.cells.lookup p.1=a_ c)->
  (forIn names acc λ(x:Str×eI) (cs:List (Str×e_))=>match x with
   | (name,kind)=>if (kind == pQ)=c_ then (do let c <-cellOf env name;pure (FL ((name,c)::cs))) else (pure (FL cs):Sem (ForInStep (List (Str×e_)))))=pure (ff env.cells names acc)
 | [],acc,_=>rfl
 | (n,k)::r,acc,h=>by
  have ih:=λacc=>N5 r acc λp hp=>h p (List.mem_cons_of_mem _ hp);rw[List.forIn_cons]
  by_cases hk:(k == pQ)=c_
  ·obtain⟨c,hc⟩:=h (n,k) List.mem_cons_self (by simpa using hk);have e:cellOf env n=pure c:=by unfold cellOf;rw[hc]
   dsimp only;rw[if_pos hk,e];unfold ff;rw[if_pos hk,hc];exact ih _
  ·dsimp only;rw[if_neg hk];unfold ff;rw[if_neg hk];exact ih _
theorem Gh{env:Env}{sc:i_}(h:∀p∈sc.names,p.2=.free->∃c,env.cells.lookup p.1=a_ c):closureFor sc env=pure (ff env.cells sc.names []):=by
 unfold closureFor;have e:=N5 (env:=env) sc.names [] h;simp only[e];rfl
theorem CB{cells:List (Str×e_)}:∀(names:List (Str×eI)) (acc:List (Str×e_)),(∀x c,acc.lookup x=a_ c->cells.lookup x=a_ c)->∀x c,(ff cells names acc).lookup x=a_ c->cells.lookup x=a_ c
 | [],acc,h,x,c,e=>h x c e
 | (n,k)::r,acc,h,x,c,e=>by
  unfold ff at e
  split at e
  ·refine CB r _ (λy d q=>?_) x c e
   split at q
   ·rename_i c' iT
    by_cases hy:y=n
    ·subst hy;rw[List.lookup_cons_self]at q;cases q;exact iT
    ·have hb:=beq_eq_false_iff_ne.mpr hy;rw[List.lookup_cons,hb]at q;exact h y d q
   ·exact h y d q
  ·exact CB r acc h x c e
theorem GJ{cells:List (Str×e_)}:∀(names:List (Str×eI)) (acc:List (Str×e_)) (x:Str),(∃c,acc.lookup x=a_ c)->∃c,(ff cells names acc).lookup x=a_ c
 | [],acc,x,h=>h
 | (n,k)::r,acc,x,h=>by
  unfold ff
  split
  ·refine GJ r _ x ?_
   split
   ·rename_i c' iT
    by_cases hy:x=n
    ·subst hy;exact⟨c',List.lookup_cons_self⟩
    ·have hb:=beq_eq_false_iff_ne.mpr hy;rw[List.lookup_cons,hb];exact h
   ·exact h
  ·exact GJ r acc x h
theorem CD{cells:List (Str×e_)}:∀(names:List (Str×eI)) (acc:List (Str×e_)) (x:Str),(x,pQ)∈names->(∃c,cells.lookup x=a_ c)->∃c,(ff cells names acc).lookup x=a_ c
 | [],acc,x,h,_=>by cases h
 | (n,k)::r,acc,x,h,hc=>by
  unfold ff;rcases List.mem_cons.mp h with e | e
  ·cases e;obtain⟨c,hc⟩:=hc;rw[if_pos (beq_self_eq_true _),hc];exact GJ r _ n ⟨c,List.lookup_cons_self⟩
  ·split
   ·exact CD r _ x e hc
   ·exact CD r acc x e hc
end
end L3
namespace L2
open L3
def lu(X:Cx)(sc:i_)(N:List Str)(s:g_)(H:Hp)(ex:List e_)(C:e_)(EE:f_->g_->Prop):Cx:=
 {X with N:=N,s₀:=s,H₀:=H,env:=compEnvC sc (ff X.env.cells sc.names []) C X.env,outer:=X.stack,ex:=ex,fn:=λ_=>d_,pn:=[],xe:=EE }
def yS(X:Cx)(sc:i_)(N:List Str)(s:g_)(H:Hp)(ex:List e_)(C:e_):Cx:=lu X sc N s H ex C λ_ _=>False
structure cZ(X:Cx)(sc:i_)(N:List Str)(idx:List Nat):Prop where
 kind:sc.kind=.function
 Dh:∀y∈sc.names,y.2≠.cell
 locs:∀y∈sc.names,y.2=.local->sc.names.lookup y.1=a_ .local
 frees:∀y∈sc.names,y.2=.free->X.env.scope.names.lookup y.1=a_ .cell
 le:idx.length<=N.length
 Uk:∀(k i:Nat) (x:Str),idx[k]?=a_ i->N[k]?=a_ x->X.N[i]?=a_ x/\sc.names.lookup x=a_ .free
def jF(idx:List Nat)(n:Nat)(σ:St):St:=idx.map (λi=>(σ[i]?).join)++List.replicate (n-idx.length) b_
theorem HG{idx:List Nat}{n:Nat}(h:idx.length<=n):(jF idx n σ).length=n:=by
 unfold jF;rw[List.length_append,List.length_map,List.length_replicate];lia
theorem HH{idx:List Nat}{n k:Nat}(h:(jF idx n σ)[k]?=a_ (a_ v)):∃i,idx[k]?=a_ i/\σ[i]?=a_ (a_ v):=by
 unfold jF at h
 by_cases hk:k<idx.length
 ·rw[List.getElem?_append_left (by simpa using hk),List.getElem?_map]at h;cases e:idx[k]? with
  | none=>rw[e]at h;cases h
  | some i=>
   rw[e]at h;have h':(σ[i]?).join=a_ v:=cu h;refine aA i rfl ?_;cases e2:σ[i]? with
   | none=>rw[e2]at h';cases h'
   | some o=>rw[e2]at h';rw[show o=a_ v from h']
 ·rw[List.getElem?_append_right (by simpa using hk),List.getElem?_replicate]at h
  split at h
  ·cases h
  ·cases h
def rl(env:Env)(p:Str×eI):Str×eI:=if (p.2 == pQ&&env.scope.kind == .function&&env.kindOf p.1 == a_ .cell)=c_ then (p.1,eI.cell) else p
theorem IS{env:Env}{k:eI}(h:(k == pQ&&env.scope.kind == .function&&env.kindOf n == a_ .cell)=c_):rl env (n,k)=(n,.cell):=if_pos h
theorem P6{env:Env}{k:eI}(h:¬(k == pQ&&env.scope.kind == .function&&env.kindOf n == a_ .cell)=c_):rl env (n,k)=(n,k):=if_neg h
theorem Np{env:Env}(hf:env.scope.kind=.function):∀{names:List (Str×eI)} {x:Str},names.lookup x=a_ .free->env.kindOf x=a_ .cell->(names.map (rl env)).lookup x=a_ .cell
 | [],_,h,_=>by simp at h
 | (n,k)::r,x,h,hc=>by
  have ih:=@Np env hf r x;rw[List.map_cons]
  by_cases hx:x=n
  ·subst hx;rw[List.lookup_cons_self]at h;cases h;rw[IS (by rw[hf,hc];decide),List.lookup_cons_self]
  ·have hb:=beq_eq_false_iff_ne.mpr hx;rw[List.lookup_cons,hb]at h;have e:=ih h hc
   by_cases q:(k == pQ&&env.scope.kind == .function&&env.kindOf n == a_ .cell)=c_
   ·rw[IS q,List.lookup_cons,hb];exact e
   ·rw[P6 q,List.lookup_cons,hb];exact e
theorem F3{env:Env}:∀{names:List (Str×eI)} {x:Str} {kd:eI},(names.map (rl env)).lookup x=a_ kd->(x,kd)∈names\/(x,pQ)∈names
 | [],_,_,h=>by simp at h
 | (n,k)::r,x,kd,h=>by
  have ih:=@F3 env r x kd;rw[List.map_cons]at h
  by_cases q:(k == pQ&&env.scope.kind == .function&&env.kindOf n == a_ .cell)=c_
  ·rw[IS q]at h
   by_cases hx:x=n
   ·subst hx
    have hk:k=.free:=by
     rw[nj,nj]at q;exact gu q.1.1
    subst hk;exact .inr List.mem_cons_self
   ·have hb:=beq_eq_false_iff_ne.mpr hx;rw[List.lookup_cons,hb]at h;exact(ih h).elim (λe=>.inl (List.mem_cons_of_mem _ e)) λe=>.inr (List.mem_cons_of_mem _ e)
  ·rw[P6 q]at h
   by_cases hx:x=n
   ·subst hx;rw[List.lookup_cons_self]at h;cases h;exact .inl List.mem_cons_self
   ·have hb:=beq_eq_false_iff_ne.mpr hx;rw[List.lookup_cons,hb]at h;exact(ih h).elim (λe=>.inl (List.mem_cons_of_mem _ e)) λe=>.inr (List.mem_cons_of_mem _ e)
theorem Inv.adopt{X:Cx}{o:HO}(I:Inv X p_ σ H s)(hn:H a=b_)(ya:X.s₀.heap.objs.size<=a)(hL:a≠X.env.locals)
  (hc:∀x c,X.env.cells.lookup x=a_ c->c≠a) (hp:∀p∈X.pn++p_,p.1≠a) (new:de X.prog X.w (upd H a o) s.heap a o):Inv X p_ σ (upd H a o) s:=by
 have ne:∀b u,H b=a_ u->b≠a:=λb u e=>cG e hn;refine⟨I.ok,I.os,I.bare,⟨I.base.keep,I.base.slot,λb u q n hx=>?_,I.base.there,λb xs q=>?_,λb u xs q=>?_,λb ps q=>?_⟩,I.loc,I.cell,?_,λx c e=>?_,λp hq=>?_,λb u q=>?_,I.len⟩
 ·rw[ag (cI (gq (bq q) ya))];exact I.base.free b u q n hx
 ·have e:=I.base.rY b xs q;rw[ag (ne b _ e)];exact e
 ·have e:=I.base.qz b u xs q;rw[ag (ne b _ e)];exact e
 ·exact oE (I.base.qq b ps q) λm e=>⟨m,by rw[ag (ne b _ e)];exact e⟩
 ·rw[ag (cB hL)];exact I.free
 ·rw[ag (hc x c e)];exact I.jZ x c e
 ·exact dg (I.pin p hq) λe1 e2 e3=>eT e1 (by rw[ag (hp p hq)];exact e2) e3
 ·by_cases hb:b=a
  ·subst hb;rw[ao]at q;cases q;exact new
  ·rw[ag hb]at q;exact(I.aD b u q).rZ (λ_ _ _ z=>z) (λc z=>by rw[ag (ne c _ z)];exact z) λc xs z=>by rw[ag (ne c _ z)];exact z
section
variable{X:Cx}{p_:List (e_×Obj)}{σ:St}{H:Hp}{s:g_}{sc:i_}{N:List Str}{idx:List Nat}{fp:List e_}
abbrev dF:Obj:={ cls:=.type "list",data:=.seq ([]:List f_).toArray }
abbrev jV(s:g_):Shared:={ s with heap:=s.heap.push dF }
theorem ZT(I:Inv X p_ σ H s)(h:ip X p_ H b):X.base.get? b=none:=by
 cases e:X.base.get? b with
 | none=>rfl
 | some o=>
  rcases h.2.2.2.1 with z | z
  ·exact absurd z (I.ok.v8 b o e)
  ·exact absurd (gq (bq e) (cx I.ok.mG z)) (nu _)
theorem aa8(I:Inv X p_ σ H s)(S:cZ X sc N idx)(hf:∀b∈fp,ip X p_ H b)(ho:∀b∈fp,∃o,s.heap.get? b=a_ o){m:Str->Option f_}{t:Nat}
  (ja:h'.Ns (s.heap.push dF).objs.size m) (hk:∀b o,(s.heap.push dF).get? b=a_ o->h'.get? b=a_ o) :
  Inv (lu X sc N (jV s) H (s.heap.objs.size::fp) (s.heap.push dF).objs.size EE) [] (jF idx N.length σ) H { jV s with heap:=h',toks:=t }:=by
 have I3:Inv X p_ σ H (jV s):=I.kept (t':=s.toks) λb o e=>aY _ e;have hC:(s.heap.push dF).objs.size=s.heap.objs.size+1:=lO _ _;have lZ:∀x c,(ff X.env.cells sc.names []).lookup x=a_ c->X.env.cells.lookup x=a_ c:=CB sc.names [] (λx c e=>by cases e)
 have clt:∀x c,(ff X.env.cells sc.names []).lookup x=a_ c->c<s.heap.objs.size:=λx c e=>by
  exact oE (I.cell x c (lZ x c e)) λv z=>z.lt
 have sA:∀b∈fp,b<s.heap.objs.size:=λb hb=>by
  exact oE (ho b hb) λo e=>bq e
 have back:∀x,((relabel sc X.env).names.lookup x=a_ .cell\/(relabel sc X.env).names.lookup x=a_ .free)->(x,pQ)∈sc.names:=λx h=>by
  rcases h with h | h
  ·rcases F3 (env:=X.env) (names:=sc.names) (show (sc.names.map (rl X.env)).lookup x=_ from h)with e | e
   ·exact absurd rfl (S.Dh _ e)
   ·exact e
  ·rcases F3 (env:=X.env) (names:=sc.names) (show (sc.names.map (rl X.env)).lookup x=_ from h)with e | e
   ·exact e
   ·exact e
 have has:∀x,(x,pQ)∈sc.names->∃c,(ff X.env.cells sc.names []).lookup x=a_ c:=λx e=>
  CD sc.names [] x e (I.ok.has x (.inl (S.frees _ e rfl)))
 refine⟨⟨I.ok.mod,S.kind,I.ok.glob,I.ok.blt,aw _,λx y c e1 e2=>I.ok.inj x y c (lZ x c e1) (lZ y c e2),λx h=>has x (back x h),λx c h=>(by cases h),I.ok.hd,I.ok.frames,.inl rfl,λb hb=>?_,I3.bs,cx I.ok.mG I3.sz,λb o e hb=>?_,λb hb=>?_,I3.stack,I3.HM⟩,I.os ▸ rfl,I.bare,Un.kept hk,⟨m,ja,λk x v e1 e2 e3=>?_⟩,λx c e=>?_,I3.aD.fresh (aw _),λx c e=>I.jZ x c (lZ x c e),λp hp=>absurd (show p∈([]:List (e_×Obj)) from hp) (by simp),I3.aD.kept hk,HG S.le⟩
 ·rcases List.mem_cons.mp hb with e | hb
  ·subst e;exact⟨by rw[hC];exact cI (zH _),λx c e=>cI (clt x c e)⟩
  ·refine⟨by rw[hC];exact cI (zF (sA b hb)),λx c e=>(hf b hb).2.2.2.2.1 x c (lZ x c e)⟩
 ·rcases List.mem_cons.mp hb with z | hb
  ·subst z;exact absurd (bq (I.bk _ _ e)) (nu _)
  ·have e':X.base.get? b=a_ o:=e;rw[ZT I (hf b hb)]at e';cases e'
 ·intro hs;have Bd:=I.IC b hs;rcases List.mem_cons.mp hb with z | hb
  ·subst z;rcases List.mem_cons.mp Bd with e | e
   ·exact absurd I.lt (by rw[<-e];exact nu _)
   ·exact I.SD (aw _) e
  ·rcases List.mem_cons.mp Bd with e | e
   ·exact(hf b hb).2.1 e
   ·exact(hf b hb).2.2.1 e
 ·refine ai (HH e2) λi h1 h2=>oA (S.Uk k i x h1 e1) λh3 h4=>?_;have lK:=t_ h4;have rX:X.env.scope.names.lookup x=a_ .cell:=S.frees _ lK rfl;refine ai I.loc λm' Bm Bq=>ai (Bq i x v h3 h2 (.inr (.inl rX))) λu r l=>aA u r (.inr ⟨.inl (Np I.ok.kind h4 rX),?_⟩);rcases l with ⟨q,_⟩ | ⟨_,c,ec,z⟩
  ·have q':X.env.scope.names.lookup x=a_ .local:=q;rw[rX]at q';cases q'
  ·refine oE (has x lK) λc' BG=>?_;have:=lZ x c' BG;rw[ec]at this;cases this;exact aA c BG (z.keeps λb o e=>hk b o (aY _ e))
 ·exact oE (I.cell x c (lZ x c e)) λv z=>⟨v,z.keeps λb o e=>hk b o (aY _ e)⟩
theorem aa7(I:Inv X p_ σ H s)(hf:∀b∈fp,ip X p_ H b)
  (I':Inv (lu X sc N (jV s) H (s.heap.objs.size::fp) (s.heap.push dF).objs.size EE) pl σ' H' s'):Inv X p_ σ H' s':=by
 have I3:Inv X p_ σ H (jV s):=I.kept (t':=s.toks) λb o e=>aY _ e;have fa:=I.iM (aw _) (I.aD.fresh (aw _));refine I3.Sa (ch:=s.heap.objs.size::fp) (I'.os.trans rfl) I'.base I'.aD I'.bare λb hb=>?_
 have q:ip X p_ H b:=by
  rcases List.mem_cons.mp hb with e | hb
  ·subst e;exact fa
  ·exact hf b hb
 exact⟨q.2.2.2.1,q.2.1,q.2.2.2.2.1,q.2.2.2.2.2⟩
end
abbrev yU:=St->Hp->(Bool->Hp->Prop)->Prop
def mf:yU:=λ_ H Q=>Q c_ H
def AZ(X:Cx)(ifs:List Expr)(t:yU):Prop:=
 ∀(p_:List (e_×Obj)) (s:g_) (σ:St) (H:Hp) (Q:Bool->Hp->Prop),Inv X p_ σ H s->t σ H Q->wpAny (model X.prog X.w) X.A (tests ifs X.env) (TP X p_ σ Q) X.xe s
theorem gZ{X:Cx}:AZ X [] mf:=λ_ _ _ H _ I h=>YY ⟨H,I,h⟩
theorem tJ{X:Cx}{t:TT}(h:PT X c t):AZ X [c] t:=λp_ s σ H Q I q=>YX (h p_ s σ H Q I q)
def AE(n:Nat)(σ σ2:St):Prop:=σ2.length=σ.length/\∀i,i<n->σ2[i]?=σ[i]?
def JP(J:It)(g:TG)(tc:yU)(te:TE)(σ0:St)(H1:Hp)(K:List V->Hp->Prop):Prop:=
 ∃W:Nat->Nat->List V->Hp->Prop,(∃m,W 0 m [] H1)/\∀i m ys H,W i m ys H->
  (J.stop i H/\K ys H)\/
  (J.go i H/\ys.length<a9/\∃N:List V->Hp->Prop,(∀zs H',N zs H'->∃m',m'<m/\W (i+1) m' zs H')/\
   ∀x H',J.uD i H x H'->g x σ0 H' λσ2 H2=>tc σ2 H2 λb H3=>if b=c_ then te σ2 H3 (λy H4=>N (ys++[y]) H4) else N ys H3)
def Jn(wi:TI)(g:TG)(tc:yU)(te:TE)(idx:List Nat)(n:Nat):TE:=λσ H Q=>wi σ H λJ H1=>
 JP J g tc te (jF idx n σ) H1 λys H2=>ys.length<=a9/\∀p,H2 p=b_->Q (.ref p) (upd H2 p (.lst ys))
def yq(n:Nat)(g:TG):Prop:=∀x σ H Q,g x σ H Q->g x σ H λσ2 H2=>Q σ2 H2/\AE n σ σ2
theorem Hy{n k:Nat}{v:Option V}(h:n<=k):AE n σ (σ.set k v):=⟨List.length_set,λi hi=>List.getElem?_set_ne li⟩
theorem gF{n k:Nat}(h:n<=k):yq n (jj k):=λx σ H Q q=>⟨q,Hy h⟩
theorem xQ{K:u_}{n k l:Nat}(h:n<=k)(h':n<=l):yq n (SK K 2 (JI (jj k) (JI (jj l) SM))):=λx σ H Q q=>by
 refine ic q λa xs e1 e2 e3 aa=>bX aa λv r e4 aa=>dC aa λv' r' e5 e6 q=>⟨a,⟨xs,e1,e2,e3,v,r,e4,v',r',e5,e6,q,?_⟩⟩;have k1:AE n σ (σ.set k (a_ v)):=Hy h;have k2:AE n (σ.set k (a_ v)) ((σ.set k (a_ v)).set l (a_ v')):=Hy h';exact⟨k2.1.trans k1.1,λi hi=>(k2.2 i hi).trans (k1.2 i hi)⟩
theorem OO{X:Cx}{idx:List Nat}{n:Nat}(I:Inv X p_ σ2 H s)(k:AE idx.length (jF idx n σ) σ2):Inv X p_ (jF idx n σ) H s:=
 I.weak k.1.symm λi v e=>by
  refine ai (HH e) λj h1 _=>?_;rw[k.2 i (List.getElem?_eq_some_iff.mp h1).1];exact e
theorem eN{J:It}{tc:yU}{K:List V->Hp->Prop}{n:Nat}(P:Nat->List V->Hp->Prop)(hn:n<=a9)(h0:P 0 [] H1)(hle:∀i ys H,P i ys H->ys.length<=i)
  (LZ:∀i ys H,i<n->P i ys H->J.go i H) (dv:∀ys H,P n ys H->J.stop n H)
  (hs:∀i ys H,i<n->P i ys H->∀x H',J.uD i H x H'->g x σ0 H' λσ2 H2=>tc σ2 H2 λb H3=>if b=c_ then te σ2 H3 (λy H4=>P (i+1) (ys++[y]) H4) else P (i+1) ys H3)
  (hd:∀ys H,P n ys H->K ys H):JP J g tc te σ0 H1 K:=by
 refine⟨λi m ys H=>m=n-i/\i<=n/\P i ys H,⟨n,by simp,aP _,h0⟩,?_⟩;rintro i m ys H ⟨rfl,hi,p⟩
 by_cases bG:i<n
 ·refine .inr (eT (LZ i ys H bG p) (by have:=hle i ys H p;lia) ⟨P (i+1),λzs H' p'=>⟨n-(i+1),om,rfl,bG,p'⟩,hs i ys H bG p⟩)
 ·have e:i=n:=li;subst e;exact .inl ⟨dv ys H p,hd ys H p⟩
section
variable{X:Cx}{tg elt iter:Expr}{ifs:List Expr}{wi:TI}{g:TG}{tc:yU}{te:TE}{sc:i_}{N:List Str}{idx:List Nat}{pos:Pos}
theorem Pu{K:List V->Hp->Prop}{RR:e_->f_->Result->g_->Prop}(hc:X.calm=c_)(S:cZ X sc N idx)(gk:yq idx.length g)
  {fp:List e_} {tn:Nat->j_->Prop} {J:It} (hg:PG (lu X sc N (jV s) H (s.heap.objs.size::fp) (s.heap.push dF).objs.size EE) tg g) (ht:AZ (lu X sc N (jV s) H (s.heap.objs.size::fp) (s.heap.push dF).objs.size EE) ifs tc) (he:PE (lu X sc N (jV s) H (s.heap.objs.size::fp) (s.heap.push dF).objs.size EE) elt te) (I:Inv X p_ σ H s) (T:Turn X.prog X.w X.K tg J fp it tn) (st:tn 0 s.heap) (hf:∀b∈fp,ip X p_ H b) (hW:JP J g tc te (jF idx N.length σ) H K)
  (Ml:∀e s',EE e s'->notedBy (model X.prog X.w) X.A (compEnvC sc (ff X.env.cells sc.names []) (s.heap.push dF).objs.size X.env) (λe s'=>RR (s.heap.push dF).objs.size (.ref s.heap.objs.size) (.error e) s') e s')
  (hR:∀(s':g_) (ys:List V) (H':Hp) (m:Str->Option f_) (its:List f_) (n:Nat),K ys H'->Inv X p_ σ H' s'->s'.heap.Ns (s.heap.push dF).objs.size m->H' (s.heap.push dF).objs.size=b_->H' s.heap.objs.size=b_->Vals ys its->
   s'.heap.get? s.heap.objs.size=a_ { cls:=.type "list",data:=.seq its.toArray n }->RR (s.heap.push dF).objs.size (.ref s.heap.objs.size) (.ok .next) s') :
  wpAny (model X.prog X.w) X.A (newList []) (λacc s₃=>wpAny (model X.prog X.w) X.A (newFunctionEnv sc X.env.globals (ff X.env.cells sc.names []) [] X.env.qual b_ .none (a_ X.env)) (λTM s₄=>
   codeAny (model X.prog X.w) X.A (.compStart (.ListComp elt [⟨tg,iter,ifs,0⟩] sc pos) 0 (.ref it) acc { TM with scope:=relabel sc X.env }) (RR TM.locals acc) s₄) E s₃) E s:=by
 refine ai hW λW aa turn=>oE aa λm0 w0=>tu (wpAny_newFunctionEnv S.Dh (by intro y hy;cases hy) (λh' ja EZ=>?_) S.kind);have hC:(s.heap.push dF).objs.size=s.heap.objs.size+1:=lO _ _;have hk:∀b o,(s.heap.push dF).get? b=a_ o->h'.get? b=a_ o:=λb o e=>(EZ.2 b (cI (bq e))).trans (aY _ e);have ho:∀b∈fp,∃o,s.heap.get? b=a_ o:=λb hb=>let ⟨o,e,_⟩:=T.obj _ _ st b hb;⟨o,e⟩
 have I0:=aa8 (EE:=EE) (t:=s.toks+([]:List (Str×f_)).length) I S hf ho ja hk
 have fn:∀b∈fp,b≠s.heap.objs.size:=λb hb=>by
  exact oE (ho b hb) λo e=>cI (bq e)
 have accN:=I.aD.fresh (aw _)
 have Mp:∀{H':Hp} {pl:List (e_×Obj)},(∀b∈fp,H' b=b_)->(∀p∈pl,p.1=s.heap.objs.size)->∀b∈fp,ip (lu X sc N (jV s) H (s.heap.objs.size::fp) (s.heap.push dF).objs.size EE) pl H' b:=λ{H' pl} hn hp b hb=>by
  refine⟨(hn b hb),((I0.ok.uH b (List.mem_cons_of_mem _ hb)).1),(I0.ok.uj b (List.mem_cons_of_mem _ hb)),(.inl (List.mem_cons_of_mem _ hb)),((I0.ok.uH b (List.mem_cons_of_mem _ hb)).2),(λp hq=>?_)⟩;have xa:p∈pl:=by simpa[lu]using hq
  rw[hp p xa];exact cB (fn b hb)
 have loop:codeAny (model X.prog X.w) X.A (.compLoop (.ListComp elt [⟨tg,iter,ifs,0⟩] sc pos) 0 (.ref it) (.ref s.heap.objs.size) (compEnvC sc (ff X.env.cells sc.names []) (s.heap.push dF).objs.size X.env))
   (RR (s.heap.push dF).objs.size (.ref s.heap.objs.size)) { jV s with heap:=h',toks:=s.toks+([]:List (Str×f_)).length }:=by
  refine ZK (EE:=EE) (λn s'=>∃i ys H' its k,Inv (lu X sc N (jV s) H (s.heap.objs.size::fp) (s.heap.push dF).objs.size EE) [] (jF idx N.length σ) H' s'/\tn i s'.heap/\(∀b∈fp,H' b=b_)/\H' s.heap.objs.size=b_/\
   Vals ys its/\s'.heap.get? s.heap.objs.size=a_ { cls:=.type "list",data:=.seq its.toArray k }/\W i n ys H') Ml ?_ m0 ?_
  ·rintro n s3 ⟨i,ys,H3,its,kk,I3,gD,BA,Fm,EA,ac3,w3⟩
   have D7:∀{H':Hp},H' s.heap.objs.size=b_->ip (lu X sc N (jV s) H (s.heap.objs.size::fp) (s.heap.push dF).objs.size EE) [] H' s.heap.objs.size:=λ{H'} hn=>
    ⟨hn,(I0.ok.uH _ List.mem_cons_self).1,I0.ok.uj _ List.mem_cons_self,.inl List.mem_cons_self,(I0.ok.uH _ List.mem_cons_self).2,λp hq=>absurd (show p∈([]:List (e_×Obj)) from hq) (by simp)⟩
   have P3:Inv (lu X sc N (jV s) H (s.heap.objs.size::fp) (s.heap.push dF).objs.size EE) [(s.heap.objs.size,{ cls:=.type "list",data:=.seq its.toArray kk })] (jF idx N.length σ) H3 s3:=I3.tK λp hp=>by
    have e:p=(s.heap.objs.size,{ cls:=.type "list",data:=.seq its.toArray kk }):=by simpa using hp
    subst e;exact⟨ac3,Fm,((D7 Fm).2.1),((D7 Fm).2.2.1),(λv z=>by cases z)⟩
   have one:∀p∈[((s.heap.objs.size,{ cls:=.type "list",data:=.seq its.toArray kk }):e_×Obj)],p.1=s.heap.objs.size:=λp hp=>by
    have e:p=(s.heap.objs.size,{ cls:=.type "list",data:=.seq its.toArray kk }):=by simpa using hp
    rw[e]
   rcases turn i n ys H3 w3 with ⟨stop,kq⟩ | ⟨go,hz,NN,Wb,step⟩
   ·refine aI (T.done (lu X sc N (jV s) H (s.heap.objs.size::fp) (s.heap.push dF).objs.size EE) rfl rfl rfl hc i _ s3 _ H3 _ P3 (Mp BA one) gD stop) λr s4 ⟨hr,I4⟩=>⟨λ_=>?_,λv e=>(by rw[hr]at e;cases e)⟩;exact ai I4.loc λm' Bm _=>hR s4 ys H3 m' its kk kq (aa7 I hf I4) Bm I4.free Fm EA (I4.pin _ (List.mem_append_right _ List.mem_cons_self)).1
   ·refine aI (T.item (lu X sc N (jV s) H (s.heap.objs.size::fp) (s.heap.push dF).objs.size EE) rfl rfl rfl hc i _ s3 _ H3 _ P3 (Mp BA one) gD go) λr s4 ⟨u,hr,h4⟩=>⟨λe=>(by rw[hr]at e;cases e),λv e=>?_⟩;rw[hr]at e;cases e;refine aI h4 λ_ s5 ⟨x,H5,I5,r5,y5,er,Mo⟩=>?_;have My:=I5.pinned (Mp Mo one) (T.obj _ _ er);refine aI (hg _ s5 _ H5 x u _ My r5 (gk _ _ _ _ (step x H5 y5))) λ_ s6 zq=>dC zq λσ6 H6 I6 q6 k6=>thT (ht _ s6 σ6 H6 _ I6 q6) λok s7 H7 I7 q7=>⟨λe=>?_,λe=>?_⟩
    ·subst e;rw[if_pos rfl]at q7;refine TX (he _ s7 σ6 H7 _ I7 q7) λv s8 y H8 I8 r8 n8=>ai (Wb _ _ n8) λm' hm w8=>?_;have pa:=I8.pin (s.heap.objs.size,{ cls:=.type "list",data:=.seq its.toArray kk }) (List.mem_append_right _ (List.mem_append_left _ List.mem_cons_self));have hlen:=EA.length;refine wpAny_list_append_plain (items:=its.toArray) ⟨kk,pa.1⟩ (λh9 pl9 UE=>?_) (by rw[List.size_toArray];lia);have Mx:=I8.tK λp hp=>I8.pin p (List.mem_append_right _ (List.mem_append_right _ hp))
     have I9:=Mx.turned (h':=h9) (t':=s8.toks) (it:=s.heap.objs.size) (λb o hb e=>(UE.2 b hb).trans e) pa.2.1 (D7 pa.2.1).2.1 (.inl List.mem_cons_self) (D7 pa.2.1).2.2.2.2.1 (λp hp=>by
      have uU:p∈Aq fp s5.heap:=by simpa[lu]using hp
      exact fn p.1 (Ow uU).1)
     refine oE pl9 λk9 e9=>⟨m',⟨hm,i+1,ys++[y],H8,its++[v],k9,OO (I9.tK λp hp=>absurd hp (by simp)) k6,T.keep _ _ _ er λb hb o e=>?_,λb hb=>?_,pa.2.1,EA.append (.cons r8 .nil),?_,w8⟩⟩
     ·have q:=(Mx.pin (b,o) (List.mem_append_right _ (xP hb e))).1;exact(UE.2 b (fn b hb)).trans q
     ·exact ai (T.obj _ _ er b hb) λo e _=>(Mx.pin (b,o) (List.mem_append_right _ (xP hb e))).2.1
     ·rw[e9];simp
    ·subst e;rw[if_neg dO]at q7;refine ai (Wb _ _ q7) λm' hm w7=>?_;have pa:=I7.pin (s.heap.objs.size,{ cls:=.type "list",data:=.seq its.toArray kk }) (List.mem_append_right _ (List.mem_append_left _ List.mem_cons_self));exact⟨m',⟨hm,i+1,ys,H7,its,kk,OO (I7.tK λp hp=>absurd hp (by simp)) k6,T.keep _ _ _ er λb hb o e=>(I7.pin (b,o) (List.mem_append_right _ (List.mem_append_right _ (xP hb e)))).1,λb hb=>ai (T.obj _ _ er b hb) λo e _=>(I7.pin (b,o) (List.mem_append_right _ (List.mem_append_right _ (xP hb e)))).2.1,pa.2.1,EA,pa.1,w7⟩⟩
  ·exact⟨0,([]),H,([]),0,I0,(T.keep _ _ _ st λb hb o e=>hk b o (aY _ e)),(λb hb=>(hf b hb).1),accN,.nil,(hk _ _ (dw _ rfl)),w0⟩
 exact codeAny_compStart_list loop (T.self _ 0 _ _ _ (T.keep _ _ _ st λb hb o e=>hk b o (aY _ e)) loop)
theorem g6(hc:X.calm=c_)(S:cZ X sc N idx)(gk:yq idx.length g)(hi:PI X tg iter wi)
  (hg:∀s H ex C,PG (yS X sc N s H ex C) tg g) (ht:∀s H ex C,AZ (yS X sc N s H ex C) ifs tc) (he:∀s H ex C,PE (yS X sc N s H ex C) elt te)
  (hs:∀x,MV iter X.env x=pure x:=by intro _;rfl):PE X (.ListComp elt [⟨tg,iter,ifs,0⟩] sc pos) (Jn wi g tc te idx N.length):=by
 intro p_ s σ H Q I h;rw[eval_ListComp];have ng:=Gh λp hp e=>I.ok.has p.1 (.inl (S.frees p hp e));refine W5 (use:=b_) rfl hs ng S.kind S.locs (aI (hi p_ s σ H _ I h) λv s1 h1=>aI h1 λEL s2 h2=>fj h2 λit fp tn J H2 aa=>qe aa λe I2 T du f2 hW=>?_);subst e;refine Pu (EE:=λ_ _=>False) (RR:=λC acc=>compPost (model X.prog X.w) X.A X.xe b_ (EP X p_ σ Q) acc C) hc S gk (hg _ _ _ _) (ht _ _ _ _) (he _ _ _ _) I2 T du f2 hW (λ_ _ z=>z.elim) λs' ys H' m its n kq I' ja Mm By rv ea=>?_;have hC:(s2.heap.push dF).objs.size=s2.heap.objs.size+1:=lO _ _;have fa:=I2.iM (aw _) (I2.aD.fresh (aw _));have fC:ip X p_ H2 (s2.heap.push dF).objs.size:=I2.iM (by rw[hC];exact kJ _) (I2.aD.fresh (by rw[hC];exact kJ _));have ya:=I2.sz;have I1:=Inv.adopt (o:=.lst ys) I' By ya fa.2.1 fa.2.2.2.2.1 fa.2.2.2.2.2 ⟨kq.1,its,n,rv,ea⟩;refine aA m ja λh' sb=>(dZ (.ref s2.heap.objs.size) _ (I1.turned (h':=h') (t':=s'.toks) (it:=(s2.heap.push dF).objs.size) (λb o hb e=>(sb.2 b hb).trans e) ?_ fC.2.1 (.inr (by rw[hC];exact vk ya)) fC.2.2.2.2.1 fC.2.2.2.2.2) rfl (kq.2 _ By));rw[ag (by rw[hC];exact FD _)];exact Mm
theorem tE{i:Nat}(hN:X.N.Nodup)(hx:X.N[i]?=a_ x)(hl:X.env.scope.names.lookup x=a_ .local)(hc:X.calm=c_)(S:cZ X sc N idx)(gk:yq idx.length g)(hi:PI X tg iter wi)
  (hg:∀s H ex C,PG (yS X sc N s H ex C) tg g) (ht:∀s H ex C,AZ (yS X sc N s H ex C) ifs tc) (he:∀s H ex C,PE (yS X sc N s H ex C) elt te)
  (hsw:Cj (.ListComp elt [⟨tg,iter,ifs,0⟩] sc pos) (a_ (.Name x pos')) ahi.line X.env=pure true:=by rfl)
  (hs:∀x,MV iter X.env x=pure x:=by intro _;rfl):PS X (.Assign [.Name x pos'] (.ListComp elt [⟨tg,iter,ifs,0⟩] sc pos) ahi) (J3 (Jn wi g tc te idx N.length) (jj i)):=by
 intro p_ s σ H D I h;rw[exec_Assign_Name_used _ _ _ _ hsw];refine aj (Nl (aj ?_));have ng:=Gh λp hp e=>I.ok.has p.1 (.inl (S.frees p hp e));show wpAny _ X.A (do let _ <-comprehension (.ListComp elt [⟨tg,iter,ifs,0⟩] sc pos) sc X.env _ (newList []) d_ (eval iter X.env) (a_ (assign (.Name x pos') X.env))) _ _ s;refine aj (gG (W5 (use:=a_ (assign (.Name x pos') X.env)) (Q:=λ_ s'=>SP X p_ D .next s') rfl hs ng S.kind S.locs (aI (hi p_ s σ H _ I h) λv s1 h1=>aI h1 λEL s2 h2=>?_)) (λ_ s' q=>aM (aM q)) λ_ _ q=>q);refine fj h2 λit fp tn J H2 aa=>qe aa λe I2 T du f2 hW=>?_;subst e;refine Pu (EE:=λ_ _=>False) (RR:=λC acc=>compPost (model X.prog X.w) X.A X.xe (a_ (assign (.Name x pos') X.env)) (λ_ s'=>SP X p_ D .next s') acc C) hc S gk (hg _ _ _ _) (ht _ _ _ _) (he _ _ _ _) I2 T du f2 hW (λ_ _ z=>z.elim) λs' ys H' m its n kq I' ja Mm By rv ea=>?_;have hC:(s2.heap.push dF).objs.size=s2.heap.objs.size+1:=lO _ _;have fa:=I2.iM (aw _) (I2.aD.fresh (aw _));have fC:ip X p_ H2 (s2.heap.push dF).objs.size:=I2.iM (by rw[hC];exact kJ _) (I2.aD.fresh (by rw[hC];exact kJ _));have ya:=I2.sz;have I1:=Inv.adopt (o:=.lst ys) I' By ya fa.2.1 fa.2.2.2.2.1 fa.2.2.2.2.2 ⟨kq.1,its,n,rv,ea⟩
 have ah8:upd H' s2.heap.objs.size (.lst ys) (s2.heap.push dF).objs.size=none:=by
  rw[ag (by rw[hC];exact FD _)];exact Mm
 show wpAny (model X.prog X.w) X.A (assign (.Name x pos') X.env (.ref s2.heap.objs.size)) _ X.xe s';refine wpAny_assign_Name (Od (v:=.ref s2.heap.objs.size) I1 hN hx (.inl hl) rfl (λs3 I3 ⟨a,sb,ha⟩=>?_) (.inr hl))
 have aC:(s2.heap.push dF).objs.size≠a:=by
  rcases ha with e | e
  ·rw[e];exact fC.2.1
  ·exact cB (fC.2.2.2.2.1 x a e)
 refine aA m (ja.sameBut sb aC) λh' sb'=>(eO _ _ (I3.turned (h':=h') (t':=s3.toks) (it:=(s2.heap.push dF).objs.size) (λb o hb e=>(sb'.2 b hb).trans e) ah8 fC.2.1 (.inr (by rw[hC];exact vk ya)) fC.2.2.2.2.1 fC.2.2.2.2.2) (kq.2 _ By))
end
end L2
namespace L2
open PySem.W
section
variable{cmp:Nat->Nat->(Bool->g_->Prop)->g_->Prop}{r:Nat->Int}{n:Nat}{p:Array Nat}{s:g_}
variable(hr:∀i j,i<n->j<n->r i=r j->i=j)(hc:∀i j (C:Bool->g_->Prop),i<n->j<n->i≠j->C (decide (r i<r j)) s->cmp i j C s)
include hr hc
end
end L2
namespace L2
open PySem.W
theorem ack{h:j_}{a:e_}{m m':Str->Option f_}(x:h.Ns a m)(y:h.Ns a m'):m=m':=by
 obtain⟨o,es,ep,e,d,_,f⟩:=x;obtain⟨o',jR,Fg,e',d',_,f'⟩:=y;rw[e]at e';cases e';rw[d]at d';cases d'
 funext n
 exact(f n).symm.trans (f' n)
section
variable{X:Cx}{p_:List (e_×Obj)}{σ:St}{H:Hp}{s:g_}
theorem Inv.regrown{h':j_}{m:Str->Option f_}{t':Nat}{d':Drawn}(I:Inv X p_ σ H s)(h1:s.heap.Ns X.env.locals m)(h2:h'.Ns X.env.locals m)(k:∀b o,b≠X.env.locals->s.heap.get? b=a_ o->h'.get? b=a_ o) :
  Inv X p_ σ H { s with heap:=h',drawn:=d',toks:=t' }:=by
 refine I.step (g':=s.gens) (d':=d') (ch:=[]) (λ_ z=>nomatch z) (λb o hL _ _ e _=>k b o hL e) (λb o hL _ _ e _=>⟨o.slots,k b o hL e⟩) (λ_ _ _ _ n=>n) (λb o _ e=>?_) (λ_ _ e=>e) (λ_ _ _ e=>e)
  (λb ps e=>⟨#[],by rw[e];simp⟩) (λm' hm=>by rw[ack hm h1];exact h2) (λb u e=>?_) I.bare
 ·by_cases z:b=X.env.locals
  ·obtain⟨o',_,_,q,_⟩:=h2;exact⟨o',by rw[z];exact q⟩
  ·exact⟨o,k b o z e⟩
 ·refine(I.aD b u e).rZ (λd v hd q=>k d v (λz=>?_) q) (λ_ q=>q) λ_ _ q=>q;have fr:=I.free;rw[<-z]at fr;rcases hd with y | y
  ·rw[y,e]at fr;cases fr
  ·rw[y]at fr;cases fr
theorem Yo{P:l_}{w:k_}{A:h_}{E:f_->g_->Prop}{a:e_}{vs:List f_}{n:Nat}{R:PySem.Fin->g_->Prop}(ho:s.heap.get? a=a_ (seqObj "list" vs.toArray n))(h1:vs.length<2)
  (k:∀h' e,(∀b o,b≠a->s.heap.get? b=a_ o->h'.get? b=a_ o)->h'.get? a=a_ (seqObj "list" vs.toArray e)->R (.done (.ret .none)) { s with heap:=h' }) :
  wpAny (model P w) A (Builtin.«list.sort» ⟨[.ref a],[]⟩) R E s:=by
 have la:=bq ho;have hn:vs.toArray.size<2:=by rw[List.size_toArray];exact h1
 have zs:∀m:Nat,m<2->m<=a9:=λm hm=>by rw[eM];exact w5
 obtain⟨e1,q1⟩:∃e1,(s.heap.update a (kM λ_=>(#[]:Array f_))).get? a=a_ (seqObj "list" #[] e1):=⟨_,BW ho λ_=>#[]⟩;rw[list_sort_plain];refine aj (listItems_at ho rfl (aj (FZ ho rfl (aj (Gb q1 rfl (aj (Nh (aj (FX (jw ?_) (aP _))) (zs _ (by simpa using h1)))))) (zs _ (by simpa using h1)) (aP _))));have q3:=aY (seqObj "list" #[] 0) (aY (seqObj "tuple" vs.toArray 0) q1);dsimp only;rw[if_pos hn,if_pos hn];refine aj (aM ?_);rw[StateT.run_pure];refine aj (aM ?_);dsimp only
 have eo:(arrOf (Gp general' (vs.toArray.zip vs.toArray) #[] 7 b_)).map (·.2)=vs.toArray:=by
  show (vs.toArray.zip vs.toArray).map (·.2)=vs.toArray;apply M5.mp;rw[M0,XC];show (vs.zip vs).map Prod.snd=vs;rw[List.map_snd_zip (aw _)]
 rw[eo];refine aj (Gb q3 rfl (aj (FZ q3 rfl ?_ (aP _) (cx (zs _ (by simpa using h1)) (kJ _)))));rw[if_neg (by simp)];refine aM (k _ _ (λb o hb e=>?_) (BW q3 λ_=>vs.toArray));rw[BR _ _ _ _ hb];exact aY _ (aY _ (by rw[BR _ _ _ _ hb];exact e))
end
end L2
namespace L2
open PySem.W L3
abbrev Jc(X:Cx)(sc:i_)(qual:Str)(f:e_)(cd:f_)(L:e_):Env:=envX qual sc L f cd (ff X.env.cells sc.names [])
def Ei(X:Cx)(A:h_)(sc:i_)(N:List Str)(qual:Str)(f:e_)(cd:f_)(s:g_)(H:Hp):Cx:=
 {X with A:=A.deeper (Jc X sc qual f cd s.heap.objs.size),N:=N,s₀:=s,H₀:=H,env:=Jc X sc qual f cd s.heap.objs.size,outer:=X.stack,stack:=Jc X sc qual f cd s.heap.objs.size::X.stack,ex:=[],fn:=λ_=>d_,calm:=c_,pn:=[],xe:=λ_ _=>False }
section
variable{X:Cx}{p_:List (e_×Obj)}{σ:St}{H:Hp}{s:g_}{sc:i_}{N:List Str}{idx:List Nat}{A:h_}{f:e_}{cd:f_}{qual px:Str}{k:Nat}{v:V}{u:f_}
theorem acw(I:Inv X p_ σ H s)(S:cZ X sc N idx)(hA:A.frames=a_ X.stack)(hh:A.handled=b_)(hk:N[k]?=a_ px)(hl:sc.names.lookup px=a_ .local)(hi:idx.length<=k)(r:RelV v u){m:Str->Option f_}{t:Nat}
  (ja:h'.Ns s.heap.objs.size m) (hm:m px=a_ u) (kp:∀b o,s.heap.get? b=a_ o->h'.get? b=a_ o) :
  Inv (Ei X A sc N qual f cd s H) [] ((jF idx N.length σ).set k (a_ v)) H { s with heap:=h',toks:=t }:=by
 have lZ:∀x c,(ff X.env.cells sc.names []).lookup x=a_ c->X.env.cells.lookup x=a_ c:=CB sc.names [] (λx c e=>by cases e);have has:=λx e=>CD sc.names [] x e (I.ok.has x (.inl (S.frees _ e rfl)));have qI:∀b:e_,b∉(Ei X A sc N qual f cd s H).ex:=λb z=>absurd (show b∈([]:List e_) from z) (by simp);refine⟨⟨I.ok.mod,S.kind,rfl,rfl,aw _,λx y c e1 e2=>I.ok.inj x y c (lZ x c e1) (lZ y c e2),λx h=>?_,λx c h=>(by cases h),λ_=>hh,Xi hA,.inr ⟨rfl,rfl⟩,λb z=>absurd z (qI b),I.bs,cx I.ok.mG I.sz,λb _ _=>qI b,λb z=>absurd z (qI b),I.stack,I.HM⟩,rfl,I.bare,Un.kept kp,⟨m,ja,λj x w e1 e2 e3=>?_⟩,λx c e=>?_,I.aD.fresh (aw _),λx c e=>I.jZ x c (lZ x c e),λp hp=>absurd (show p∈([]:List (e_×Obj)) from hp) (by simp),I.aD.kept kp,by rw[List.length_set];exact HG S.le⟩
 ·have h2:sc.names.lookup x=a_ .cell\/sc.names.lookup x=a_ .free:=h;rcases h2 with z | z
  ·exact absurd rfl (S.Dh _ (t_ z))
  ·exact has x (t_ z)
 ·have BK:N[j]?=a_ x:=e1
  by_cases hj:j=k
  ·subst hj;rw[hk]at BK;cases BK;have bG:j<(jF idx N.length σ).length:=by rw[HG S.le];exact(List.getElem?_eq_some_iff.mp hk).1
   rw[List.getElem?_set_self bG]at e2;cases e2;exact⟨u,r,.inl ⟨hl,hm⟩⟩
  ·rw[List.getElem?_set_ne (cB hj)]at e2;obtain⟨i,h1,h2⟩:=HH e2;obtain⟨h3,h4⟩:=S.Uk j i x h1 BK;have lK:=t_ h4;have rX:X.env.scope.names.lookup x=a_ .cell:=S.frees _ lK rfl;obtain⟨m',Bm,Bq⟩:=I.loc;obtain⟨u',r',l⟩:=Bq i x w h3 h2 (.inr (.inl rX));refine⟨u',r',.inr ⟨.inr h4,?_⟩⟩;rcases l with ⟨q,_⟩ | ⟨_,c,ec,z⟩
   ·have q':X.env.scope.names.lookup x=a_ .local:=q;rw[rX]at q';cases q'
   ·obtain⟨c',BG⟩:=has x lK;have:=lZ x c' BG;rw[ec]at this;cases this;exact⟨c,BG,z.keeps λb o e=>kp b o e⟩
 ·obtain⟨v',z⟩:=I.cell x c (lZ x c e);exact⟨v',z.keeps λb o e=>kp b o e⟩
theorem aaR{params:Arguments}(I:Inv X p_ σ H s)(S:cZ X sc N idx)(hA:A.frames=a_ X.stack)(hh:A.handled=b_)(Se:A.depth<BZ)(hk:N[k]?=a_ px)
  (hl:sc.names.lookup px=a_ .local) (hi:idx.length<=k) (r:RelV v u) (ho:s.heap.get? f=a_ (kla_obj "<lambda>" qual params body sc (ff X.env.cells sc.names []) pm c' nX)) (iD:s.heap.CodeRec (.ref c') qual)
  (AG:rE (kla_fn "<lambda>" qual params body sc (ff X.env.cells sc.names []) pm (.ref c') nX) ⟨[u],[]⟩=pure [(px,u)]) (xn:sc.isCoroutine=d_) (Ky:sc.isGenerator=d_)
  (hb:PE (Ei X A sc N qual f (.ref c') s H) body te) (q:te ((jF idx N.length σ).set k (a_ v)) H Q):wpAny (model X.prog X.w) A (call (.ref f) [u]) (EP X p_ σ Q) E s:=by
 refine Gk (kla_callFunE Se ho rfl xn Ky rfl iD ?_);rw[AG];refine aM (wpAny_newFunctionEnv S.Dh (λy hy=>?_) (λh1 ja EZ=>⟨I.nolimit.fresh _ EZ,?_⟩) S.kind)
 ·have e:y=(px,u):=by simpa using hy
  rw[e];exact hl
 ·have kp:∀b o,s.heap.get? b=a_ o->h1.get? b=a_ o:=λb o e=>EZ.extBut b o (cI (bq e)) (aY _ e);have J:=acw (A:=A) (f:=f) (cd:=.ref c') (qual:=qual) (t:=s.toks+[(px,u)].length) I S hA hh hk hl hi r ja (by simp[List.lookup_cons]) kp;refine kla_codeExpr (gG (hb [] _ _ H _ J q) (λw s2 hw=>?_) λ_ _ z=>lU z);obtain⟨v2,H2,J2,r2,q2⟩:=hw;exact⟨v2,H2,I.Sa (ch:=[]) (J2.os.trans rfl) J2.base J2.aD J2.bare λb z=>absurd z (by simp),r2,q2⟩
end
def yT(c:e_)(qual:Str):HO:=.ext λh=>h.CodeRec (.ref c) qual
theorem aea{P:l_}{w:k_}(x:h.CodeRec (.ref c) qual):de P w H h c (yT c qual):=by
 obtain⟨c0,o,vs,t,e,q,r⟩:=id x;cases e;refine⟨x,⟨o,q⟩,λh1 h2 y k=>?_⟩;obtain⟨c1,o1,A4,t1,e1,q1,r1⟩:=y;cases e1;exact⟨c,o1,A4,t1,rfl,k _ q1,r1⟩
def cY(P:e_)(pos:Pos)(qual:Str)(H:Hp):Prop:=∃ps,H P=a_ (.eh ps)/\(ps=#[]\/∃c,ps=#[rawInt pos.line,rawInt pos.col,.ref c]/\H c=a_ (yT c qual))
def t7(P:e_)(H H':Hp):Prop:=∀b o,b≠P->H b=a_ o->H' b=a_ o
theorem t7.refl{P:e_}(H:Hp):t7 P H H:=λ_ _ _ e=>e
def se(mg:Str->Option f_)(base:j_):Prop:=∃bm ob,mg "__builtins__" = a_ (.ref bm)/\bm≠pW/\bm≠dW/\base.get? bm=a_ ob/\ob.cls=.type "module"/\ob.dict=a_ pW/\ob.data=.plain
section
variable{X:Cx}{p_:List (e_×Obj)}{σ:St}{H:Hp}{s:g_}
theorem Inv.grow{P:e_}{ps more:Array f_}{t':Nat}(I:Inv X p_ σ H s)(hP:H P=a_ (.eh ps))(k:∀b o,b≠P->s.heap.get? b=a_ o->h'.get? b=a_ o)(e:h'.get? P=a_ (tabObj (ps++more))) :
  Inv X p_ σ (upd H P (.eh (ps++more))) { s with heap:=h',toks:=t' }:=by
 have ne:∀b,H b=b_->b≠P:=λb n z=>by rw[z,hP]at n;cases n
 refine I.step (g':=s.gens) (d':=s.drawn) (ch:=[]) (λ_ z=>nomatch z) (λb o _ _ _ q n=>k b o (ne b n) q) (λb o _ _ _ q n=>⟨o.slots,k b o (ne b n) q⟩) (λb o _ q n=>by rw[ag (ne b n)];exact n) (λb o _ q=>?_) (λb xs q=>?_) (λb o u q=>?_) (λb qs q=>?_)
  (λm hm=>?_) (λb u q=>?_) I.bare
 ·by_cases z:b=P
  ·exact⟨_,by rw[z];exact e⟩
  ·exact⟨o,k b o z q⟩
 ·rw[ag (ie q hP (by intro z;cases z))];exact q
 ·rw[ag (ie q hP (by intro z;cases z))];exact q
 ·by_cases z:b=P
  ·subst z;rw[hP]at q;cases q;exact⟨more,ao⟩
  ·exact⟨#[],by rw[ag z,q];simp⟩
 ·obtain⟨o,es,ep,q,r⟩:=hm;exact⟨o,es,ep,k _ o (ne _ I.free) q,r⟩
 ·by_cases z:b=P
  ·subst z;rw[ao]at q;cases q;exact e
  ·rw[ag z]at q;refine(I.aD b u q).rZ (λd v hd y=>k d v (λw=>?_) y) (λc y=>?_) λc xs y=>?_
   ·rcases hd with y1 | y1
    ·exact z (y1.symm.trans w)
    ·rw[w,hP]at y1;cases y1
   ·rw[ag (ie y hP (by intro z;cases z))];exact y
   ·rw[ag (ie y hP (by intro z;cases z))];exact y
theorem Inv.DI(I:Inv X p_ σ H s)(g:ip X p_ H f)(e:s.heap.get? f=a_ o)(n:∀v,o.data≠.cell v):Inv X (p_++[(f,o)]) σ H s:=
 I.tK λp hp=>by
  rcases List.mem_append.mp hp with z | z
  ·exact I.pin p (List.mem_append_right _ z)
  ·have z':p=(f,o):=by simpa using z
   rw[z'];exact⟨e,g.1,g.2.1,g.2.2.1,n⟩
theorem aaQ{sc:i_}{idx:List Nat}{params:Arguments}{c P:e_}(I:Inv X p_ σ H s)(S:cZ X sc N idx)(DE:X.env.code=.ref c)(C:CodeHd X.base c P)(B:se X.mg X.base)
  (Kz:defaultsOf params X.env=([],[])) (h:cY P pos (X.env.qual ++ "<lambda>") H)
  (k:∀f c' H' pm nX s',Inv X (p_++[(f,kla_obj "<lambda>" (X.env.qual ++ "<lambda>") params body sc (ff X.env.cells sc.names []) pm c' nX)]) σ H' s'->t7 P H H'->cY P pos (X.env.qual ++ "<lambda>") H'->H' c'=a_ (yT c' (X.env.qual ++ "<lambda>"))->R (.ref f) s') :
  wpAny (model X.prog X.w) X.A (eval (.Lambda params body sc pos) X.env) R E s:=by
 have ng:=Gh λp hp e=>I.ok.has p.1 (.inl (S.frees p hp e));obtain⟨ps,hP,jO⟩:=h;have oP:s.heap.get? P=a_ (tabObj ps):=I.aD P _ hP;obtain⟨bm,ob,b1,b2,b3,b4,b5,b6,b7⟩:=B
 have nP:∀b o,X.base.get? b=a_ o->b≠P:=λb o e z=>by
  have:=(I.bs b o e).2;rw[z,hP]at this;cases this
 have VU:=I.mod.glob.keeps I.bk
 have gP:dW≠P:=by
  obtain⟨o,es,ep,e,_⟩:=I.mod.glob;exact nP _ _ e
 have hb:s.heap.BuiltinsAt X.mg P:=⟨bm,ob,b1,b2,b3,nP _ _ b4,I.bk _ _ b4,b5,b6,b7⟩;have CC:=C.keeps I.bk;refine kla_eval Kz ?_;rcases jO with rfl | ⟨c0,rfl,zh⟩
 ·refine kla_makeFunction (mg:=X.mg) ng I.ok.glob VU DE CC oP lR rfl gP hb λc' nX h' tk hx pG bG ahF wW=>?_
  have I1:Inv X p_ σ (upd H P (.eh (#[] ++ #[rawInt pos.line,rawInt pos.col,.ref c']))) { s with heap:=h'.push (kla_obj "<lambda>" (X.env.qual ++ "<lambda>") params body sc (ff X.env.cells sc.names []) ((X.mg "__name__").getD .none) c' nX),toks:=tk }:=
   I.grow hP (λb o n e=>aY _ (hx b o n e)) (aY _ wW)
  have Vg:=bq oP;have nc:=I.aD.fresh pG;have cP:=rh (gq Vg pG);have nc1:upd H P (.eh (#[] ++ #[rawInt pos.line,rawInt pos.col,.ref c'])) c'=none:=by rw[ag cP];exact nc
  have fc:=I.iM (b:=c') pG nc;have I2:=Inv.adopt (o:=yT c' (X.env.qual ++ "<lambda>")) I1 nc1 (cx I.sz pG) fc.2.1 fc.2.2.2.2.1 fc.2.2.2.2.2 (aea (ahF.push _));have L0:=cx pG (c8 bG);have fP:=rh (gq Vg L0)
  have nf:upd (upd H P (.eh (#[] ++ #[rawInt pos.line,rawInt pos.col,.ref c']))) c' (yT c' (X.env.qual ++ "<lambda>")) h'.objs.size=none:=by
   rw[ag (rh bG),ag fP];exact I.aD.fresh L0
  have I3:=I2.DI (I.iM (b:=h'.objs.size) L0 nf) (dw _ rfl) (λv z=>by cases z);refine k _ c' _ _ nX _ I3 (λb o n e=>?_) ⟨_,by rw[ag (cB cP),ao],.inr ⟨c',by simp,ao⟩⟩ ao;rw[ag (cG e nc),ag n];exact e
 ·have hcr:s.heap.CodeRec (.ref c0) (X.env.qual ++ "<lambda>"):=(I.aD c0 _ zh).1;have hf:codeAmong pos (#[rawInt pos.line,rawInt pos.col,cR c0]:Array f_).toList=a_ (.ref c0):=by simp[codeAmong,rawInt]
  refine kla_makeFunctionHit (mg:=X.mg) ng I.ok.glob VU DE CC oP (show TriplesOk [rawInt pos.line,rawInt pos.col,cR c0] from lR) hf hb λnX h' tk kk pG=>?_;have I1:Inv X p_ σ H { s with heap:=h'.push (kla_obj "<lambda>" (X.env.qual ++ "<lambda>") params body sc (ff X.env.cells sc.names []) ((X.mg "__name__").getD .none) c0 nX),toks:=tk }:=I.kept λb o e=>aY _ (kk b o e);have I3:=I1.DI (I.iM (b:=h'.objs.size) pG (I.aD.fresh pG)) (dw _ rfl) (λv z=>by cases z);exact k _ c0 _ _ nX _ I3 (t7.refl H) ⟨_,hP,.inr ⟨c0,rfl,zh⟩⟩ zh
end
end L2
namespace L2
open PySem.W
def Sb(ts:List e_)(H:Hp):Prop:=(∀b,H b=b_\/(∃o xs,H b=a_ (.lC o (.lst xs)))\/(b∈ts/\H b=a_ (.eh #[])))/\∀b∈ts,H b=a_ (.eh #[])
theorem Zs{P:l_}{w:k_}{K:u_}{mg mb:Str->Option f_}{CX:pe}{k:Nat}{sp:Sp}
  (KX:K.In s₁.heap) (ja:s₁.heap.Ns dW mg) (hb:s₁.heap.Ns pW mb) (hbb:∀x:Str,x ≠ "__name__"->mb x=q8 x) (ahS:s₁.heap.NoLimit) (hg:s₁.gens=#[]) (vc:se mg s₁.heap)
  (pD:∀b∈ts,s₁.heap.get? b=a_ (tabObj #[])) (htc:∀b∈ts,isCodeTable s₁.heap b) (EX:∀b∈ts,K.lookup b=b_)
  (ha:s₁.heap.get? a=a_ { cls:=.type "list",data:=.seq vs.toArray }) (hi:IntsAre vs ns) (hl:ns.length<=a9) (hr:eJ k callerA)
  (F:∀base:j_,K.In base->base.Ns dW mg->se mg base->ax P w K mg base CX k fa fd [x] sp) (AG:∀(s:g_) (u:f_),BindsTo s fd ⟨[u],[]⟩ [(x,u)])
  (qL:∀H:Hp,Sb ts H->ae K H a (ns.map V.int)->sp [.ref a] H (λv _=>v=.bl c_) λ_ _ _=>False)
  (hCX:∀H e s',CX [] H s₁ (λ_ _ _=>False) e s'->False) :
  codeAny (model P w) callerA (.call (.ref fa) ⟨[.ref a],[]⟩) (λr s'=>r=.ok (.ret (.bool c_))/\OldK s₁.heap s'.heap/\s'.os=s₁.os/\AllBare s'.gens) s₁:=by
 have rv:=N' hi;have ahl:=hi.length
 have WE:a∉ts:=λz=>by
  have e:=pD a z;rw[ha]at e;cases e
 have core:∀H:Hp,Sb ts H->ae K H a (ns.map V.int)->dU P w H s₁.heap->(∀b,H b≠b_->b=a\/b∈ts)->(H a≠b_->K.lookup a=b_)->
   codeAny (model P w) callerA (.call (.ref fa) ⟨[.ref a],[]⟩) (λr s'=>r=.ok (.ret (.bool c_))/\OldK s₁.heap s'.heap/\s'.os=s₁.os/\AllBare s'.gens) s₁:=by
  intro H hO hS aD hA hK;have base_of:∀{b:e_} {o:Obj},s₁.heap.get? b=a_ o->H b=b_->(qu s₁.heap H).get? b=a_ o:=λe n=>aaU e n
  have qI:∀{b:e_} {o:Obj},s₁.heap.get? b=a_ o->(∀xs n,o.data≠.seq xs n)->(∀xs,o.data≠.fields xs)->H b=none:=λ{b o} e d1 d2=>by
   cases q:H b with
   | none=>rfl
   | some u=>
    rcases hA b (by rw[q];simp)with z | z
    ·subst z;rw[ha]at e;cases e;exact absurd rfl (d1 _ _)
    ·rw[pD b z]at e;cases e;exact absurd rfl (d2 _)
  have ED:∀{b:e_} {m:Str->Option f_},s₁.heap.Ns b m->(qu s₁.heap H).Ns b m:=λ{b m} ⟨o,es,ep,e,d,r⟩=>⟨o,es,ep,base_of e (qI e (λ_ _ z=>by rw[d]at z;cases z) λ_ z=>by rw[d]at z;cases z),d,r⟩
  have Wc:K.In (qu s₁.heap H):=λb o e=>base_of (KX b o e) (by
   cases q:H b with
   | none=>rfl
   | some u=>
    rcases hA b (by rw[q];simp)with z | z
    ·subst z;rw[hK (by rw[q];simp)]at e;cases e
    ·rw[EX b z]at e;cases e)
  have hB:se mg (qu s₁.heap H):=by
   obtain⟨bm,ob,b1,b2,b3,b4,b5,b6,b7⟩:=vc;exact⟨bm,ob,b1,b2,b3,base_of b4 (qI b4 (λ_ _ z=>by rw[b7]at z;cases z) λ_ z=>by rw[b7]at z;cases z),b5,b6,b7⟩
  have hM:Mod K mg (qu s₁.heap H):=⟨Wc,ED ja,⟨mb,ED hb,hbb⟩,let ⟨mc,h1,h2⟩:=ahS;⟨mc,ED h1,h2⟩⟩;have e0:we P w K mg (qu s₁.heap H) callerA [] s₁ H:=⟨rfl,hM,λb o e=>ach e,nz (Zx _ _),trivial,λb hb=>absurd (show b∈([]:List e_) from hb) (by simp),aD,.of_eq hg⟩;refine zO ((F _ Wc (ED ja) hB).run callerA [] s₁ H ⟨[.ref a],[]⟩ [.ref a] [.ref a] _ _ hr e0 (AG s₁ (.ref a)) (.cons rfl .nil) (qL H hO hS)) λr s' h=>?_;cases r with
  | error e=>exact(hCX H e s' h).elim
  | ok fl=>
   cases fl with
   | next=>exact lU h
   | brk=>exact lU h
   | cont=>exact lU h
   | ret u=>
    obtain⟨v,H',os,bare,un,Tr,r',q⟩:=h;have q':=q;subst q';obtain rfl:u=tF true:=r'
    have old:∀b o,s₁.heap.get? b=a_ o->asItWas s₁.heap s'.heap b o/\∃o',s'.heap.get? b=a_ o':=λb o e=>by
     cases q:H b with
     | none=>
      have:=un.keep b o e q (by intro z;exact absurd (show b∈([]:List e_) from z) (by simp)) (by simp);exact⟨.inl this,_,this⟩
     | some u=>
      rcases hO.1 b with z | ⟨ob,xs,z⟩ | ⟨hm,z⟩
      ·rw[q]at z;cases z
      ·have z2:=un.qz b ob _ z;obtain⟨e1,_⟩:=aD b _ z;obtain⟨e2,_⟩:=Tr b _ z2;rw[e]at e1;cases e1;exact⟨.inl e2,_,e2⟩
      ·obtain⟨more,z2⟩:=un.qq b _ z;have e2:s'.heap.get? b=a_ (tabObj (#[]++more)):=Tr b _ z2;have e1:=pD b hm;rw[e]at e1;cases e1;exact⟨.inr (.inl ⟨htc b hm,rfl,#[],more,rfl,e2⟩),_,e2⟩
    exact⟨rfl,⟨λb o e=>(old b o e).1,λb o e=>(old b o e).2⟩,os,bare⟩
 have tok:∀b,b∈ts->de P w (λb=>if b=a then b_ else if b∈ts then a_ (.eh #[]) else b_) s₁.heap b (.eh #[]):=λb hb=>pD b hb;cases hk:K.lookup a with
 | some o=>
  have e:=KX a o hk;rw[ha]at e;cases e;have mX:∀b∈ts,(λb=>if b∈ts then a_ (HO.eh #[]) else b_) b=a_ (.eh #[]):=λb hb=>if_pos hb;refine core (λb=>if b∈ts then a_ (.eh #[]) else b_) ⟨λb=>?_,mX⟩ (.inr ⟨_,vs.toArray,_,hk,rfl,rfl,rfl,by rw[List.size_toArray,ahl];exact hl,by simpa using rv⟩) (λb u z=>?_) (λb z=>?_) λz=>absurd (if_neg WE) z
  ·by_cases hb:b∈ts
   ·exact .inr (.inr ⟨hb,if_pos hb⟩)
   ·exact .inl (if_neg hb)
  ·by_cases hb:b∈ts
   ·have z':=(if_pos hb).symm.trans z;cases z';exact pD b hb
   ·have z':=(if_neg hb).symm.trans z;cases z'
  ·by_cases hb:b∈ts
   ·exact .inr hb
   ·exact absurd (if_neg hb) z
 | none=>
  have ne:∀b∈ts,b≠a:=λb hb z=>WE (z ▸ hb);refine core (λb=>if b=a then a_ (.lC { cls:=.type "list",data:=.seq vs.toArray } (.lst (ns.map V.int))) else if b∈ts then a_ (.eh #[]) else b_) ⟨λb=>?_,λb hb=>?_⟩ (.inl (.inr ⟨{ cls:=.type "list",data:=.seq vs.toArray },if_pos rfl⟩)) (λb u z=>?_) (λb z=>?_) λ_=>hk
  ·by_cases hb:b=a
   ·exact .inr (.inl ⟨_,_,if_pos hb⟩)
   ·by_cases hc:b∈ts
    ·exact .inr (.inr ⟨hc,by dsimp only;rw[if_neg hb,if_pos hc]⟩)
    ·exact .inl (by dsimp only;rw[if_neg hb,if_neg hc])
  ·dsimp only;rw[if_neg (ne b hb),if_pos hb]
  ·dsimp only at z
   by_cases hb:b=a
   ·rw[if_pos hb]at z;cases z;subst hb;exact⟨ha,by rw[List.length_map];exact hl,vs,_,rv,ha⟩
   ·rw[if_neg hb]at z
    by_cases hc:b∈ts
    ·rw[if_pos hc]at z;cases z;exact pD b hc
    ·rw[if_neg hc]at z;cases z
  ·by_cases hb:b=a
   ·exact .inl hb
   ·by_cases hc:b∈ts
    ·exact .inr hc
    ·exact absurd (show (if b=a then _ else if b∈ts then _ else b_)=b_ by rw[if_neg hb,if_neg hc]) z
end L2
namespace HT
open PySem.W L2
theorem Nn:∀{us:List f_} {xs:List Str},p0 us xs=c_->Vals (xs.map V.str) us/\us.length=xs.length
 | [],[],_=>⟨.nil,rfl⟩
 | .str y t::us,x::xs,h=>by
  have h:(decide (y=x)&&p0 us xs)=true:=h;rw[nj]at h;obtain⟨a,b⟩:=Nn h.2;have e:=of_decide_eq_true h.1;subst e;exact⟨.cons ⟨t,rfl⟩ a,by rw[List.length_cons,List.length_cons,b]⟩
 | [],_::_,h=>by simp[p0]at h
 | u::us,[],h=>by cases u <;> simp[p0]at h
 | .none::_,_::_,h=>by simp[p0]at h
 | .ref _::_,_::_,h=>by simp[p0]at h
 | .int _ _::_,_::_,h=>by simp[p0]at h
 | .bool _::_,_::_,h=>by simp[p0]at h
theorem abq{K:Frag}(h:tupS K a xs=c_)(hz:xs.length<=a9)(H:Hp):aB K H a (xs.map V.str):=by
 unfold tupS at h
 split at h
 ·rename_i d its n sl e
  obtain⟨r,l⟩:=Nn h;exact .inr ⟨_,its,n,e,rfl,rfl,by rw[<-dj,l];exact hz,r⟩
 ·cases h
end HT
namespace L3
def fb(b:Bool)(h:j_)(it l:e_)(i:Nat):Prop:=if b=c_ then h.IsListIter it l i else h.IsTupleIter it l i
def fe(b:Bool)(h:j_)(l:e_)(xs:Array f_):Prop:=if b=c_ then h.IsList l xs else h.IsTuple l xs
theorem fb.ext{b:Bool}{i:Nat}(x:fb b h it l i)(e:Gd c h h')(n:it≠c):fb b h' it l i:=by
 cases b with
 | true=>exact(show h.IsListIter it l i from x).extBut e n
 | false=>exact(show h.IsTupleIter it l i from x).extBut e n
theorem fe.ext{b:Bool}{xs:Array f_}(x:fe b h l xs)(e:Gd c h h')(n:l≠c):fe b h' l xs:=by
 cases b with
 | true=>exact(show h.IsList l xs from x).extBut e n
 | false=>exact(show h.IsTuple l xs from x).extBut e n
theorem fb.at{b:Bool}{i:Nat}(x:fb b h it l i)(e:∀o,h.get? it=a_ o->h'.get? it=a_ o):fb b h' it l i:=by
 cases b with
 | true=>exact(show h.IsListIter it l i from x).at e
 | false=>obtain⟨o,ho,r⟩:=(show h.IsTupleIter it l i from x);exact⟨o,e o ho,r⟩
theorem fe.at{b:Bool}{xs:Array f_}(x:fe b h l xs)(e:∀o,h.get? l=a_ o->h'.get? l=a_ o):fe b h' l xs:=by
 cases b with
 | true=>exact(show h.IsList l xs from x).at e
 | false=>obtain⟨o,ho,r⟩:=(show h.IsTuple l xs from x);exact⟨o,e o ho,r⟩
theorem fb.obj{b:Bool}{i:Nat}(x:fb b h it l i):∃o vs,h.get? it=a_ o/\o.data=.fields vs:=by
 cases b with
 | true=>obtain⟨o,e,_,d⟩:=(show h.IsListIter it l i from x);exact⟨o,_,e,d⟩
 | false=>obtain⟨o,e,_,d⟩:=(show h.IsTupleIter it l i from x);exact⟨o,_,e,d⟩
section
variable{prog:l_}{w:k_}{A:h_}{E:f_->g_->Prop}{s:g_}
theorem XU{it t:e_}{i:Nat}{its:Array f_}(a1:s.heap.IsTupleIter it t i)(a2:s.heap.IsTuple t its)(a3:its[i]?=a_ x)
  (k:∀h',h'.IsTupleIter it t (i+1)->kG it s.heap h'->Q x { s with heap:=h' }):wpAny (model prog w) A (qV (.ref it)) Q E s:=by
 obtain⟨o,e,c,d⟩:=id a1;obtain⟨ot,et,_,nt,dt⟩:=a2;unfold qV;refine aj (zv (name:=q9 "__next__") a1.typeIs F.slot_tuple_iterator_next (xE F.slot_tuple_iterator_next a1.typeIs F.entry_tuple_iterator_next ?_ (F.args_tuple_iterator_next_1 _)));show wpAny _ _ (field (.ref it) 0 >>= _) _ _ s;refine aj (jS e d (x:=.ref t) rfl ?_);show wpAny _ _ (if (cR t == oo)=c_ then _ else _) _ _ s;rw[if_neg (by exact dO)];show wpAny _ _ (field (.ref it) 1 >>= _) _ _ s;refine aj (jS e d (x:=.int i 0) rfl ?_);show wpAny _ _ (GZ (.ref t) >>= _) _ _ s;refine aj (pP et dt ?_);simp only[fZ,a3];refine aj (wpAny_setField e d (by simp) (aM ⟨x,rfl,aM (k _ ⟨_,MK _ e (Obj.isFreed_of_fields (Xm d _)),(Obj.cls_mapFields ..).trans c,?_⟩ (zB ..))⟩));rw[Xm d];simp[rawInt]
theorem X2{it t:e_}{i:Nat}{its:Array f_}(hh:A.handled=b_)(a1:s.heap.IsTupleIter it t i)(a2:s.heap.IsTuple t its)(a3:its[i]?=b_)
  (k:∀h' x,Gd it s.heap h'->(∃o,h'.get? x=a_ o/\o.cls=.type "StopIteration")->E (.ref x) { s with heap:=h' }):wpAny (model prog w) A (qV (.ref it)) Q E s:=by
 obtain⟨o,e,c,d⟩:=id a1;obtain⟨ot,et,_,nt,dt⟩:=a2;unfold qV;refine aj (zv (name:=q9 "__next__") a1.typeIs F.slot_tuple_iterator_next (xE F.slot_tuple_iterator_next a1.typeIs F.entry_tuple_iterator_next ?_ (F.args_tuple_iterator_next_1 _)));show wpAny _ _ (field (.ref it) 0 >>= _) _ _ s;refine aj (jS e d (x:=.ref t) rfl ?_);show wpAny _ _ (if (cR t == oo)=c_ then _ else _) _ _ s;rw[if_neg (by exact dO)];show wpAny _ _ (field (.ref it) 1 >>= _) _ _ s;refine aj (jS e d (x:=.int i 0) rfl ?_);show wpAny _ _ (GZ (.ref t) >>= _) _ _ s;refine aj (pP et dt ?_);simp only[fZ,a3];refine aj (vv (aj (wpAny_setField e d (by simp) ?_)));show wpAny _ _ (newExc (.type "StopIteration") [] >>= _) _ _ _;refine aj ?_;unfold newExc newTuple;refine aj (tu ?_ (by size_fits));refine aj (m:=firstArgMember _ _) (Ga (a:=oo) (by first | rfl | (simp only[firstArgMember];rfl)) (tu ?_ (by size_fits)));unfold raiseNew;refine aj (wpAny_handled ?_)
 first | rw[show A.in1.handled=b_ from hh] | rw[hh]
 exact aj (aM (wpAny_throw (k _ _ (((zB ..).extBut.push _).push _) ⟨_,dw _ rfl,rfl⟩)))
theorem next_item{b:Bool}{i:Nat}{xs:Array f_}(a1:fb b s.heap it l i)(a2:fe b s.heap l xs)(a3:xs[i]?=a_ x)
  (k:∀h',fb b h' it l (i+1)->kG it s.heap h'->Q x { s with heap:=h' }):wpAny (model prog w) A (qV (.ref it)) Q E s:=by
 cases b with
 | true=>exact wpAny_nextOf_list_item a1 a2 a3 k
 | false=>exact XU a1 a2 a3 k
theorem next_end{b:Bool}{i:Nat}{xs:Array f_}(hh:A.handled=b_)(a1:fb b s.heap it l i)(a2:fe b s.heap l xs)(a3:xs[i]?=b_)
  (k:∀h' x,Gd it s.heap h'->(∃o,h'.get? x=a_ o/\o.cls=.type "StopIteration")->E (.ref x) { s with heap:=h' }):wpAny (model prog w) A (qV (.ref it)) Q E s:=by
 cases b with
 | true=>exact wpAny_nextOf_list_end hh a1 a2 a3 k
 | false=>exact X2 hh a1 a2 a3 k
theorem ZR{b1 b2:Bool}{z TI TO i1 i2 l1 l2:e_}{k1 k2:Nat}{xs ys:Array f_}{Q:Option f_->g_->Prop}(D:ZipApart z TI TO i1 i2 l1 l2)
  (hz:IsZip s.heap z TI TO .none) (Mg:IsPair s.heap TI (.ref i1) (.ref i2)) (Mf:IsPair s.heap TO a b) (n1:fb b1 s.heap i1 l1 k1) (n2:fb b2 s.heap i2 l2 k2) (m1:fe b1 s.heap l1 xs) (m2:fe b2 s.heap l2 ys)
  (hx:xs[k1]?=a_ x) (hy:ys[k2]?=a_ y)
  (hQ:∀h',IsZip h' z TI TO (rawInt s.heap.objs.size)->IsPair h' TO x y->fb b1 h' i1 l1 (k1+1)->fb b2 h' i2 l2 (k2+1)->IsPair h' s.heap.objs.size x y-> (∀c o,c≠z->c≠TO->c≠i1->c≠i2->s.heap.get? c=a_ o->h'.get? c=a_ o)->Q (a_ (.ref s.heap.objs.size)) { s with heap:=h' }):wpAny (model prog w) A (pyNext (.ref z)) Q E s:=by
 have hT:s.TypeIs (.ref z) "zip":=⟨_,hz,rfl⟩;unfold pyNext;refine aj (FY (zv (name:=q9 "__next__") hT F.slot_zip_next (xE F.slot_zip_next hT F.entry_zip_next ?_ (F.args_zip_next_1 _))));show wpAny _ _ (field (.ref z) 2 >>= _) _ _ s;refine aj (jS hz rfl (x:=.bool d_) rfl ?_);show wpAny _ _ (field (.ref z) 3 >>= _) _ _ s;refine aj (jS hz rfl (x:=.ref TI) rfl (aj (pP Mg rfl ?_)));show wpAny _ _ (Fp (.ref z) >>= _) _ _ s;unfold Fp;refine aj (aj (jS hz rfl (x:=.none) rfl (aM ?_)));simp only[if_true];refine aj (vv (aj (jS hz rfl (x:=.ref TO) rfl (aj (zC hz (by simp) λg1 eF s1=>?_)))));have eF:IsZip g1 z TI TO .ellipsis:=eF;simp only[List.zipIdx_cons,List.zipIdx_nil,List.forIn_cons,List.forIn_nil];refine aj (aj (aj (FV ?_)));show wpAny _ _ (qV (.ref i1) >>= _) _ _ _;refine aj (next_item (n1.ext s1.extBut D.i1z) (m1.ext s1.extBut D.l1z) hx λg2 Ve s2=>aM ?_);have t2:IsPair g2 TO a b:=s2.extBut _ _ D.TOi1 (s1.extBut _ _ D.TOz Mf);refine aj (pP t2 rfl (aj (MM t2 λg3 t3 s3=>aj (xK (aM ?_)))));have t3:IsPair g3 TO x b:=t3;refine aj (aj (FV ?_));show wpAny _ _ (qV (.ref i2) >>= _) _ _ _;refine aj (next_item (((n2.ext s1.extBut D.i2z).ext s2.extBut D.i12.symm).ext s3.extBut D.TOi2.symm) (((m2.ext s1.extBut D.l2z).ext s2.extBut D.l2i1).ext s3.extBut D.l2TO) hy λg4 n2' s4=>aM ?_);have t4:IsPair g4 TO x b:=s4.extBut _ _ D.TOi2 t3;refine aj (pP t4 rfl (aj (MM t4 λg5 t5 s5=>aj (xK (aM (aM ?_))))));have t5:IsPair g5 TO x y:=t5;refine aj (pP t5 rfl (aj (Nh ?_)));have hsz:g5.objs.size=s.heap.objs.size:=by rw[s5.1,s4.1,s3.1,s2.1,s1.1]
 have Vr:IsZip g5 z TI TO .ellipsis:=s5.extBut _ _ D.TOz.symm (s4.extBut _ _ D.i2z.symm (s3.extBut _ _ D.TOz.symm (s2.extBut _ _ D.i1z.symm eF)))
 have k5:∀c o,c≠z->c≠TO->c≠i1->c≠i2->s.heap.get? c=a_ o->g5.get? c=a_ o:=λc o c1 c2 c3 c4 e=>
  s5.extBut _ _ c2 (s4.extBut _ _ c4 (s3.extBut _ _ c2 (s2.extBut _ _ c3 (s1.extBut _ _ c1 e))))
 have A9:=((Ve.ext s3.extBut D.TOi1.symm).ext s4.extBut D.i12).ext s5.extBut D.TOi1.symm;have n25:=n2'.ext s5.extBut D.TOi2.symm;have Uv:=bq Vr;show wpAny _ _ (WS (.ref z) (.ref g5.objs.size) >>= _) _ _ _;unfold WS;have hz6:IsZip (g5.push { cls:=.type "tuple",data:=.seq #[x,y] }) z TI TO .ellipsis:=aY _ Vr;refine aj (aj (zC hz6 (by simp) λg7 wR s7=>?_));have wR:IsZip g7 z TI TO (rawInt g5.objs.size):=wR;refine zC wR (by simp) λg8 EM s8=>?_;have EM:IsZip g8 z TI TO (rawInt g5.objs.size):=EM;have up:∀c o,c≠z->g5.get? c=a_ o->g8.get? c=a_ o:=λc o c1 e=>s8.extBut _ _ c1 (s7.extBut _ _ c1 (aY _ e));have V7:IsPair g8 g5.objs.size x y:=s8.extBut _ _ (rh Uv) (s7.extBut _ _ (rh Uv) (dw _ rfl));rw[hsz]at EM V7;refine aM ⟨_,rfl,?_⟩;show wpAny _ _ (pure (a_ (cR g5.objs.size)):Sem (Option f_)) _ _ _;rw[hsz];exact aM (hQ g8 EM (up _ _ D.TOz t5) (A9.at λo e=>up _ o D.i1z e) (n25.at λo e=>up _ o D.i2z e) V7 λc o c1 c2 c3 c4 e=>up c o c1 (k5 c o c1 c2 c3 c4 e))
theorem abl{b1 b2:Bool}{z TI TO i1 i2 l1 l2:e_}{k1 k2:Nat}{xs ys:Array f_}{Q:Option f_->g_->Prop}(hh:A.handled=b_)(D:ZipApart z TI TO i1 i2 l1 l2)
  (hz:IsZip s.heap z TI TO .none) (Mg:IsPair s.heap TI (.ref i1) (.ref i2)) (Mf:IsPair s.heap TO a b) (n1:fb b1 s.heap i1 l1 k1) (n2:fb b2 s.heap i2 l2 k2) (m1:fe b1 s.heap l1 xs) (m2:fe b2 s.heap l2 ys)
  (D4:xs[k1]?=b_\/ys[k2]?=b_)
  (hQ:∀h',(∀c o,c≠z->c≠TO->c≠i1->c≠i2->s.heap.get? c=a_ o->h'.get? c=a_ o)->Q b_ { s with heap:=h' }):wpAny (model prog w) A (pyNext (.ref z)) Q E s:=by
 have hT:s.TypeIs (.ref z) "zip":=⟨_,hz,rfl⟩
 have fin:∀(h':j_) (e:e_),(∀c o,c≠z->c≠TO->c≠i1->c≠i2->s.heap.get? c=a_ o->h'.get? c=a_ o)->(∃o,h'.get? e=a_ o/\o.cls=.type "StopIteration")->
   wpAny (model prog w) A (do if <-isInstance (.ref e) (.type "StopIteration") then pure b_ else throw (.ref e)) Q E { s with heap:=h' }:=λh' e hk ⟨o,ho,hc⟩=>
  aj (MW (T:="StopIteration") (b:=c_) ⟨o,ho,hc⟩ isSubtype_stop (aM (hQ _ hk)))
 unfold pyNext;refine aj (FY (zv (name:=q9 "__next__") hT F.slot_zip_next (xE F.slot_zip_next hT F.entry_zip_next ?_ (F.args_zip_next_1 _))));show wpAny _ _ (field (.ref z) 2 >>= _) _ _ s;refine aj (jS hz rfl (x:=.bool d_) rfl ?_);show wpAny _ _ (field (.ref z) 3 >>= _) _ _ s;refine aj (jS hz rfl (x:=.ref TI) rfl (aj (pP Mg rfl ?_)));show wpAny _ _ (Fp (.ref z) >>= _) _ _ s;unfold Fp;refine aj (aj (jS hz rfl (x:=.none) rfl (aM ?_)));simp only[if_true];refine aj (vv (aj (jS hz rfl (x:=.ref TO) rfl (aj (zC hz (by simp) λg1 eF s1=>?_)))));have eF:IsZip g1 z TI TO .ellipsis:=eF;simp only[List.zipIdx_cons,List.zipIdx_nil,List.forIn_cons,List.forIn_nil];refine aj (aj (aj (FV ?_)));show wpAny _ _ (qV (.ref i1) >>= _) _ _ _;cases hx:xs[k1]? with
 | none=>
  refine aj (next_end hh (n1.ext s1.extBut D.i1z) (m1.ext s1.extBut D.l1z) hx λg2 e s2 he=>?_);obtain⟨oe,xb,uZ⟩:=he;have sL:IsZip g2 z TI TO .ellipsis:=s2 _ _ D.i1z.symm eF;have L6:e≠z:=λq=>by subst q;rw[sL]at xb;cases xb;simp at uZ
  exact zC sL (by simp) λg3 _ s3=>fin g3 e (λc o c1 _ c3 _ q=>s3.extBut _ _ c1 (s2 _ _ c3 (s1.extBut _ _ c1 q))) ⟨oe,s3.extBut _ _ L6 xb,uZ⟩
 | some x=>
  have hy:ys[k2]?=none:=by
   rcases D4 with q | q
   ·rw[hx]at q;cases q
   ·exact q
  refine aj (next_item (n1.ext s1.extBut D.i1z) (m1.ext s1.extBut D.l1z) hx λg2 Ve s2=>aM ?_);have t2:IsPair g2 TO a b:=s2.extBut _ _ D.TOi1 (s1.extBut _ _ D.TOz Mf);refine aj (pP t2 rfl (aj (MM t2 λg3 t3 s3=>aj (xK (aM (aj (aj (FV ?_))))))));show wpAny _ _ (qV (.ref i2) >>= _) _ _ _;refine aj (next_end hh (((n2.ext s1.extBut D.i2z).ext s2.extBut D.i12.symm).ext s3.extBut D.TOi2.symm) (((m2.ext s1.extBut D.l2z).ext s2.extBut D.l2i1).ext s3.extBut D.l2TO) hy λg4 e s4 he=>?_);obtain⟨oe,xb,uZ⟩:=he;have Vt:IsZip g4 z TI TO .ellipsis:=s4 _ _ D.i2z.symm (s3.extBut _ _ D.TOz.symm (s2.extBut _ _ D.i1z.symm eF));have L6:e≠z:=λq=>by subst q;rw[Vt]at xb;cases xb;simp at uZ
  exact zC Vt (by simp) λg5 _ s5=>fin g5 e (λc o c1 c2 c3 c4 q=>s5.extBut _ _ c1 (s4 _ _ c4 (s3.extBut _ _ c2 (s2.extBut _ _ c3 (s1.extBut _ _ c1 q))))) ⟨oe,s5.extBut _ _ L6 xb,uZ⟩
abbrev qm(b:Bool)(l:e_):Obj:={ cls:=.type (if b=c_ then "list_iterator" else "tuple_iterator"),data:=.fields #[.ref l,.int 0 0] }
theorem CA{b:Bool}{xs:Array f_}(m:fe b s.heap l xs)(k:Q (.ref s.heap.objs.size) { s with heap:=s.heap.push (qm b l) }):wpAny (model prog w) A (pyIter (.ref l)) Q E s:=by
 cases b with
 | true=>exact xC m k
 | false=>exact wpAny_pyIter_tuple m k
theorem Pj{b:Bool}(e:h.get? a=a_ (qm b l)):fb b h a l 0:=by
 cases b with
 | true=>exact⟨_,e,rfl,rfl⟩
 | false=>exact⟨_,e,rfl,rfl⟩
end
abbrev Ea(b1:Bool)(h:j_)(l1:e_):Heap:=h.push (qm b1 l1)
abbrev D'(b1 b2:Bool)(h:j_)(l1 l2:e_):Heap:=(Ea b1 h l1).push (qm b2 l2)
abbrev D9(b1 b2:Bool)(h:j_)(l1 l2:e_):Heap:=(D' b1 b2 h l1 l2).push { cls:=.type "tuple",data:=.seq #[.ref h.objs.size,.ref (Ea b1 h l1).objs.size] }
abbrev D8(b1 b2:Bool)(h:j_)(l1 l2:e_):Heap:=(D9 b1 b2 h l1 l2).push { cls:=.type "tuple",data:=.seq #[.none,.none] }
abbrev yG(b1 b2:Bool)(h:j_)(l1 l2:e_):Heap:=(D8 b1 b2 h l1 l2).push { cls:=.type "zip",data:=.fields #[.none,.bool d_,.bool d_,.ref (D' b1 b2 h l1 l2).objs.size,.ref (D9 b1 b2 h l1 l2).objs.size] }
theorem fe.push{b:Bool}{xs:Array f_}(x:fe b h l xs)(o:Obj):fe b (h.push o) l xs:=x.at λ_ e=>aY _ e
theorem abk(b1 b2:Bool)(l1 l2:e_)(xs ys:Array f_) :
  Meets (Builtin.«zip.__new__» ⟨[.type "zip",.ref l1,.ref l2],[]⟩) (λ_ R s=>fe b1 s.heap l1 xs/\fe b2 s.heap l2 ys/\R (.ok (.ret (.ref (D8 b1 b2 s.heap l1 l2).objs.size))) { s with heap:=yG b1 b2 s.heap l1 l2 }):=
 .of_wp λprog w A R s h=>by
  obtain⟨hp,g,d,tk,os⟩:=s;obtain⟨m1,m2,h⟩:=h;have DV:=sub_zip;have M1:=m1;have M2:fe b2 (Shared.heap ⟨hp.push (qm b1 l1),g,d,tk,os⟩) l2 ys:=fe.push m2 _
  wp_walk using CA M1,CA M2
  exact⟨_,rfl,h⟩
section
variable{prog:l_}{w:k_}{A:h_}{E:f_->g_->Prop}{s:g_}
theorem ZS{b1 b2:Bool}{l1 l2:e_}{xs ys:Array f_}(m1:fe b1 s.heap l1 xs)(m2:fe b2 s.heap l2 ys)
  (k:∀h',IsZip h' (s.heap.objs.size+4) (s.heap.objs.size+2) (s.heap.objs.size+3) .none->IsPair h' (s.heap.objs.size+2) (.ref s.heap.objs.size) (.ref (s.heap.objs.size+1))->
   IsPair h' (s.heap.objs.size+3) .none .none->fb b1 h' s.heap.objs.size l1 0->fb b2 h' (s.heap.objs.size+1) l2 0->(∀c o,s.heap.get? c=a_ o->h'.get? c=a_ o)->Q (.ref (s.heap.objs.size+4)) { s with heap:=h' }) :
  wpAny (model prog w) A (call (.type "zip") [.ref l1,.ref l2]) Q E s:=by
 refine callType_new F.called_zip qc (F.typeCall_zip_2 _ _) (F.newCall_zip_2 _ _) (λobj=>F.args_object_init_3 obj _ _) F.entry_zip_new (abk b1 b2 l1 l2 xs ys) ⟨m1,m2,?_⟩;have z1:(Ea b1 s.heap l1).objs.size=s.heap.objs.size+1:=lO ..;have z2:(D' b1 b2 s.heap l1 l2).objs.size=s.heap.objs.size+2:=by rw[lO,z1]
 have z3:(D9 b1 b2 s.heap l1 l2).objs.size=s.heap.objs.size+3:=by rw[lO,z2]
 have z4:(D8 b1 b2 s.heap l1 l2).objs.size=s.heap.objs.size+4:=by rw[lO,z3]
 have q5:(yG b1 b2 s.heap l1 l2).get? (D8 b1 b2 s.heap l1 l2).objs.size=a_ _:=dw _ rfl;have q4:(yG b1 b2 s.heap l1 l2).get? (D9 b1 b2 s.heap l1 l2).objs.size=a_ _:=aY _ (dw _ rfl);have q3:(yG b1 b2 s.heap l1 l2).get? (D' b1 b2 s.heap l1 l2).objs.size=a_ _:=aY _ (aY _ (dw _ rfl));have q2:(yG b1 b2 s.heap l1 l2).get? (Ea b1 s.heap l1).objs.size=a_ _:=aY _ (aY _ (aY _ (dw _ rfl)));have q1:(yG b1 b2 s.heap l1 l2).get? s.heap.objs.size=a_ _:=aY _ (aY _ (aY _ (aY _ (dw _ rfl))));show _/\_;rw[z2,z3,z4]at q5;rw[z1,z2]at q3;rw[z3]at q4;rw[z1]at q2;rw[z4];exact⟨⟨_,q5,rfl⟩,k _ q5 q3 q4 (Pj q1) (Pj q2) λc o x=>aY _ (aY _ (aY _ (aY _ (aY _ x))))⟩
end
end L3
namespace L3
open AutoSeq1 (wpAny_loadPart')
theorem ZD(l:e_)(its:Array f_)(n:Nat)(Fi:Option e_)(sl:Array (Option f_)) :
  Meets (Builtin.«enumerate.__new__» ⟨[.type "enumerate",.ref l],[]⟩) (λ_ R s=>s.heap.get? l=a_ { cls:=.type "tuple",dict:=Fi,data:=.seq its n,slots:=sl }/\
   R (.ok (.ret (.ref (s.heap.push (qm d_ l)).objs.size))) { s with heap:=(s.heap.push (qm d_ l)).push { cls:=.type "enumerate",data:=.fields #[.none,.bool d_,.ref s.heap.objs.size,rawInt 0,.none,.none] } }):=
 .of_wp λprog w A R s h=>by
  obtain⟨hp,g,d,tk,os⟩:=s;obtain⟨q,h⟩:=h;have DV:=sub_enumerate;have M:fe d_ (Shared.heap ⟨hp,g,d,tk,os⟩) l its:=⟨_,q,rfl,n,rfl⟩
  wp_walk using Nb q
  refine wpAny_stack_any λst=>aM ?_
  split
  ·rename_i c _ _ _ _ _
   cases (c == pY "enumerate") <;> (wp_walk using Nb q,CA M;exact⟨_,rfl,h⟩)
  ·wp_walk using Nb q,CA M
   exact⟨_,rfl,h⟩
section
variable{prog:l_}{w:k_}{A:h_}{E:f_->g_->Prop}{s:g_}
theorem ZE{b:Bool}{xs:Array f_}(m:fe b s.heap l xs)
  (k:∀h',IsEnum h' (s.heap.objs.size+1) s.heap.objs.size 0 .none->fb b h' s.heap.objs.size l 0->(∀c o,s.heap.get? c=a_ o->h'.get? c=a_ o)->Q (.ref (s.heap.objs.size+1)) { s with heap:=h' }) :
  wpAny (model prog w) A (call (.type "enumerate") [.ref l]) Q E s:=by
 cases b with
 | true=>exact call_enumerate_list (show s.heap.IsList l xs from m) λh' a1 a2 _ a4=>k h' a1 a2 a4
 | false=>
  obtain⟨⟨c,Fi,dt,sl⟩,hl,hc,n,hd⟩:=(show s.heap.IsTuple l xs from m);have hc:c=.type "tuple":=hc;have hd:dt=.seq xs n:=hd;subst hc hd;refine callType_new F.called_enumerate qc (F.typeCall_enumerate_1 _) (F.newCall_enumerate_1 _) (λobj=>F.args_object_init_2 obj _) F.entry_enumerate_new (ZD l xs n Fi sl) ⟨hl,?_⟩;have hz:(s.heap.push (qm d_ l)).objs.size=s.heap.objs.size+1:=lO ..
  have he:IsEnum ((s.heap.push (qm d_ l)).push { cls:=.type "enumerate",data:=.fields #[.none,.bool d_,.ref s.heap.objs.size,rawInt 0,.none,.none] }) (s.heap.objs.size+1) s.heap.objs.size 0 .none:=by
   have q:=dw (s.heap.push (qm d_ l)) (o:={ cls:=.type "enumerate",data:=.fields #[.none,.bool d_,.ref s.heap.objs.size,rawInt 0,.none,.none] }) rfl;rw[hz]at q;exact q
  show _/\_;rw[hz];exact⟨⟨_,he,rfl⟩,k _ he ⟨_,aY _ (dw _ rfl),rfl,rfl⟩ λc o x=>aY _ (aY _ x)⟩
theorem ZG{b:Bool}(hh:A.handled=b_)(it l:e_)(eA:l≠it)(xs:Array f_):Draws prog w A it [it,l] xs.size (λi v=>xs[i]?=a_ v) (λi h=>fb b h it l i/\fe b h l xs) where
 live:=λ_ _ st=>let ⟨o,_,e,_⟩:=st.1.obj;⟨o,e⟩
 frame:=λ_ _ _ st hk=>⟨st.1.at λo e=>hk it (by simp) o e,st.2.at λo e=>hk l (by simp) o e⟩
 item:=λi s Q E hi st hQ=>next_item st.1 st.2 (x:=xs[i]) (by simp[hi]) λh' n' sb=>hQ _ h' s.toks (by simp[hi]) ⟨n',st.2.ext sb.extBut eA⟩ sb
 done:=λs Q E st hE=>next_end hh st.1 st.2 (by simp) hE
end
end L3
namespace L2
open L3
theorem Inv.HL{X:Cx}{p_:List (e_×Obj)}{σ:St}{H:Hp}{s:g_}{h':j_}{t':Nat}{ch:List e_}(I:Inv X p_ σ H s)(k:∀b o,b∉ch->s.heap.get? b=a_ o->h'.get? b=a_ o)
  (hc:∀b∈ch,ip X p_ H b):Inv X p_ σ H { s with heap:=h',toks:=t' }:=by
 have uM:∀b u,H b=a_ u->b∉ch:=λb u e z=>by rw[(hc b z).1]at e;cases e
 refine I.step (g':=s.gens) (d':=s.drawn) (ch:=ch) (λb hb=>⟨(hc b hb).2.2.2.1,(hc b hb).2.1,(hc b hb).2.2.2.2.1,(hc b hb).2.2.2.2.2⟩) (λb o _ _ z e _=>k b o z e) (λb o _ _ z e _=>⟨o.slots,k b o z e⟩) (λ_ _ _ _ n=>n)
  (λb o z e=>⟨o,k b o z e⟩) (λ_ _ e=>e) (λ_ _ _ e=>e) (λb ps e=>⟨#[],by rw[e];simp⟩) (λm hm=>?_) (λb u e=>?_) I.bare
 ·exact Aw hm λo es ep ho r=>⟨o,es,ep,(k _ o (λz=>(hc _ z).2.1 rfl) ho),r⟩
 ·refine(I.aD b u e).rZ (λc v hq q=>k c v ?_ q) (λ_ q=>q) λ_ _ q=>q;rcases hq with z | z
  ·rw[z];exact uM b u e
  ·exact uM c _ z
def Sq(b:Bool)(K:u_)(H:Hp)(a:e_)(xs:List V):Prop:=if b=c_ then ae K H a xs else aB K H a xs
theorem qg{X:Cx}{b:Bool}(I:Inv X p_ σ H s)(h:Sq b X.K H a xs):∃its:List f_,Vals xs its/\fe b s.heap a its.toArray/\xs.length<=a9:=by
 cases b with
 | true=>
  exact aO (I.list h) λits r p z=>dQ its r p.isList z
 | false=>
  exact aO (I.tuple h) λits r p z=>dQ its r p z
theorem ID{X:Cx}{b:Bool}(I:Inv X p_ σ H s)(h:Sq b X.K H a xs)(h':Sq b X.K H a ys):xs=ys:=by
 cases b with
 | true=>exact I.Ph h h'
 | false=>exact I.Oc h h'
theorem Jo{X:Cx}{b:Bool}(I:Inv X p_ σ H s)(h:Sq b X.K H a xs):a<s.heap.objs.size:=by
 refine aO (qg I h) λits r p z=>?_;cases b with
 | true=>obtain⟨o,e,_⟩:=(show s.heap.IsList a its.toArray from p);exact bq e
 | false=>obtain⟨o,e,_⟩:=(show s.heap.IsTuple a its.toArray from p);exact bq e
def Us(b1 b2:Bool)(K:u_)(l1 l2:e_):It:=
 ⟨λi H=>∃xs ys x y,Sq b1 K H l1 xs/\Sq b2 K H l2 ys/\xs[i]?=a_ x/\ys[i]?=a_ y,λi H v H'=>∃p x y,H p=b_/\v=.ref p/\H'=upd H p (.tup [x,y])/\∀xs ys,Sq b1 K H l1 xs->Sq b2 K H l2 ys->xs[i]?=a_ x/\ys[i]?=a_ y,λi H=>∃xs ys,Sq b1 K H l1 xs/\Sq b2 K H l2 ys/\(xs.length<=i\/ys.length<=i)⟩
theorem xO{b:Bool}{i:Nat}(x:fb b h it l i):∃o,h.get? it=a_ o/\∀v,o.data≠.cell v:=by
 exact bX x.obj λo vs e d=>aA o e (λv z=>by rw[d]at z;cases z)
theorem ZW{P:l_}{w:k_}{K:u_}{es:List Expr}{x1:Nat}{pos:Pos}{b1 b2:Bool}{z TI TO i1 i2 l1 l2:e_}(D:ZipApart z TI TO i1 i2 l1 l2) :
  Turn P w K (.Tuple es x1 pos) (Us b1 b2 K l1 l2) [z,TI,TO,i1,i2] z (λi h=>IsZip h z TI TO .none/\IsPair h TI (.ref i1) (.ref i2)/\(∃a b,IsPair h TO a b)/\fb b1 h i1 l1 i/\fb b2 h i2 l2 i) where
 mem:=by simp
 obj:=λi h ⟨a1,a2,⟨a,b,a3⟩,a4,a5⟩ c hc=>by
  simp only[List.mem_cons,List.mem_nil_iff,or_false]at hc;rcases hc with rfl | rfl | rfl | rfl | rfl
  ·exact aA _ a1 (λv z=>by cases z)
  ·exact aA _ a2 (λv z=>by cases z)
  ·exact aA _ a3 (λv z=>by cases z)
  ·exact xO a4
  ·exact xO a5
 keep:=λi h h' ⟨a1,a2,⟨a,b,a3⟩,a4,a5⟩ k=>⟨k z (by simp) _ a1,k TI (by simp) _ a2,⟨a,b,k TO (by simp) _ a3⟩,a4.at λo e=>k i1 (by simp) o e,a5.at λo e=>k i2 (by simp) o e⟩
 item:=by
  intro X hP hw hK hc i p_ s σ H E I hf ⟨a1,a2,⟨a,b,a3⟩,a4,a5⟩ hg;subst hP hw hK;refine nE hg λxs ys x y q1 aa=>dg aa λq2 hx hy=>aO (qg I q1) λA4 r1 m1 _=>aO (qg I q2) λUw r2 m2 _=>ai (r1.get hx) λu hu ru=>ai (r2.get hy) λv hv rv=>ZR D a1 a2 a3 a4 a5 m1 m2 (x:=u) (y:=v) (by simpa using hu) (by simpa using hv) λh' c1 c2 c3 c4 c5 kk=>?_;have hp:=I.aD.fresh (aw _)
  have lts:∀c∈[z,TI,TO,i1,i2],c<s.heap.objs.size:=λc hc=>by
   simp only[List.mem_cons,List.mem_nil_iff,or_false]at hc;rcases hc with rfl | rfl | rfl | rfl | rfl
   ·exact bq a1
   ·exact bq a2
   ·exact bq a3
   ·obtain⟨o,e,_⟩:=xO a4;exact bq e
   ·obtain⟨o,e,_⟩:=xO a5;exact bq e
  refine aA _ rfl (wpAny_letOwnedTupleGo_zip c1 λxr d1 sb=>?_);have sz:∀c∈[z,TI,TO,i1,i2],c≠s.heap.objs.size:=λc hc=>cI (lts c hc)
  have k2:∀c o,c∉[z,TO,i1,i2]->s.heap.get? c=a_ o->xr.get? c=a_ o:=λc o hc e=>by
   simp only[List.mem_cons,List.mem_nil_iff,or_false,not_or]at hc;exact(sb.2 c hc.1).trans (kk c o hc.1 hc.2.1 hc.2.2.1 hc.2.2.2 e)
  have fz:∀c∈[z,TO,i1,i2],ip X p_ H c:=λc hc=>hf c (by
   simp only[List.mem_cons,List.mem_nil_iff,or_false]at hc ⊢;rcases hc with rfl | rfl | rfl | rfl <;> simp)
  have I1:=Inv.HL (t':=s.toks) I k2 fz;have pT:IsPair xr s.heap.objs.size u v:=(sb.2 _ (cB (sz z (by simp)))).trans c5;have fT:=I.iM (aw _) hp;have I2:Inv X p_ σ (upd H s.heap.objs.size (.tup [x,y])) { s with heap:=xr }:=Inv.adopt I1 hp I.sz fT.2.1 fT.2.2.2.2.1 fT.2.2.2.2.2 ⟨by show 2<=a9;decide,[u,v],.cons ru (.cons rv .nil),⟨_,pT,rfl,_,rfl⟩⟩;refine⟨.ref s.heap.objs.size,_,I2,rfl,⟨_,x,y,hp,rfl,rfl,λxs' ys' p1 p2=>⟨by rw[ID I p1 q1];exact hx,by rw[ID I p2 q2];exact hy⟩⟩,⟨d1,(sb.2 _ D.TIz).trans (kk _ _ D.TIz D.TITO D.TIi1 D.TIi2 a2),⟨u,v,(sb.2 _ D.TOz).trans c2⟩,c3.at λo e=>(sb.2 _ D.i1z).trans e,c4.at λo e=>(sb.2 _ D.i2z).trans e⟩,λc hc=>?_⟩;rw[ag (sz c hc)];exact(hf c hc).1
 done:=by
  intro X hP hw hK hc i p_ s σ H E I hf ⟨a1,a2,⟨a,b,a3⟩,a4,a5⟩ hg;subst hP hw hK;refine dC hg λxs ys q1 q2 D4=>aO (qg I q1) λA4 r1 m1 _=>aO (qg I q2) λUw r2 m2 _=>?_;have l1':=r1.length;have l2':=r2.length;refine abl (I.ok.hd hc) D a1 a2 a3 a4 a5 m1 m2 (by rcases D4 with q | q;exact .inl (by simp;lia);exact .inr (by simp;lia)) λh' kk=>⟨rfl,?_⟩
  refine Inv.HL (t':=s.toks) (ch:=[z,TO,i1,i2]) I (λc o hc e=>?_) λc hc=>hf c (by
   simp only[List.mem_cons,List.mem_nil_iff,or_false]at hc ⊢;rcases hc with rfl | rfl | rfl | rfl <;> simp)
  simp only[List.mem_cons,List.mem_nil_iff,or_false,not_or]at hc;exact kk c o hc.1 hc.2.1 hc.2.2.1 hc.2.2.2 e
 self:=λ_ _ _ _ _ st h=>wpAny_pyIter_zip st.1 h
section
variable{X:Cx}{pos:Pos}
def ag7(b1 b2:Bool)(K:u_)(ta:TA):TI:=λσ H R=>ta σ H λvs H1=>∃l1 l2 xs ys,vs=[.ref l1,.ref l2]/\Sq b1 K H1 l1 xs/\Sq b2 K H1 l2 ys/\R (Us b1 b2 K l1 l2) H1
theorem IW{b1 b2:Bool}{es:List Expr}{x1:Nat}(hg:Gl X "zip")(hm:X.mg "zip" = b_)(ha:PA X [a,b] ta)
  (hs:cA [a,b] X.env=[(d_,eval a X.env),(d_,eval b X.env)]:=by rfl) (pE:cA [b] X.env=[(d_,eval b X.env)]:=by rfl):PI X (.Tuple es x1 AO) (.Call (.Name "zip" p) [a,b] [] pos) (ag7 b1 b2 X.K ta):=by
 intro p_ s σ H R I h;refine Call_ (oH I hg hm boot_zip (vg (AV (ha pos p_ s σ H _ I h) λus s1 vs H1 I1 r1 q1=>?_) (by rw[hs,pE]) (by rw[pE];rfl)));obtain⟨l1,l2,xs,ys,e,q1,q2,q⟩:=q1;subst e;cases r1 with
 | cons r rr=>
  cases rr with
  | cons r' rr=>
   cases rr;cases r;cases r';obtain⟨A4,_,m1,_⟩:=qg I1 q1;obtain⟨Uw,_,m2,_⟩:=qg I1 q2;have n1:=Jo I1 q1;have n2:=Jo I1 q2;refine ZS m1 m2 λh' c1 c2 c3 c4 c5 kk=>wpAny_pyIter_zip c1 (⟨_,_,_,_,H1,rfl,(I1.kept (t':=s1.toks) kk),(ZW (D:=zipApart_new n1 n2)),⟨c1,c2,⟨_,_,c3⟩,c4,c5⟩,(λc hc=>?_),q⟩)
   have iT:s1.heap.objs.size<=c:=by
    simp only[List.mem_cons,List.mem_nil_iff,or_false]at hc;rcases hc with rfl | rfl | rfl | rfl | rfl <;> lia
   exact I1.iM iT (I1.aD.fresh iT)
def Uu(b:Bool)(K:u_)(l:e_):It:=
 ⟨λi H=>∃xs x,Sq b K H l xs/\xs[i]?=a_ x,λi H v H'=>∃p x,H p=b_/\v=.ref p/\H'=upd H p (.tup [.int i,x])/\∀xs,Sq b K H l xs->xs[i]?=a_ x,λi H=>∃xs,Sq b K H l xs/\xs.length<=i⟩
end
theorem YW{P:l_}{w:k_}{K:u_}{es:List Expr}{x1:Nat}{pos:Pos}{b:Bool}{e it l:e_}(n1:e≠it)(n2:l≠it)(n3:e≠l) :
  Turn P w K (.Tuple es x1 pos) (Uu b K l) [e,it] e (λi h=>(∃old,IsEnum h e it i old)/\fb b h it l i) where
 mem:=by simp
 obj:=λi h ⟨⟨old,a1⟩,a2⟩ c hc=>by
  simp only[List.mem_cons,List.mem_nil_iff,or_false]at hc;rcases hc with rfl | rfl
  ·exact aA _ a1 (λv z=>by cases z)
  ·exact xO a2
 keep:=λi h h' ⟨⟨old,a1⟩,a2⟩ k=>⟨⟨old,k e (by simp) _ a1⟩,a2.at λo q=>k it (by simp) o q⟩
 item:=by
  intro X hP hw hK hc i p_ s σ H E I hf ⟨⟨old,a1⟩,a2⟩ hg;subst hP hw hK;refine bX hg λxs x q1 hx=>aO (qg I q1) λvs r1 m1 _=>ai (r1.get hx) λu hu ru=>?_
  have ze:i<vs.toArray.size:=by
   have:=(List.getElem?_eq_some_iff.mp hu).1;simpa using this
  have hh:X.A.in1.handled=none:=I.ok.hd hc;refine wpAny_pyNext_enum_itemD (n:=vs.toArray.size) (ZG (b:=b) hh it l n2 vs.toArray) a1 ⟨a2,m1⟩ ze n1 (by simp;exact⟨n1,n3⟩) λy h' tk hy c1 c2 c3 c4 kk=>?_
  have ey:y=u:=by
   have:vs[i]?=a_ y:=by simpa using hy
   rw[hu]at this;exact(cu this).symm
  subst ey;have hp:=I.aD.fresh (aw _);have eS:e≠s.heap.objs.size:=cI (bq a1)
  have iS:it≠s.heap.objs.size:=by
   exact ai (xO a2) λo q _=>cI (bq q)
  refine aA _ rfl (wpAny_letOwnedTupleGo_enum c1 λxr d1 sb=>?_)
  have k2:∀c o,c∉[e,it]->s.heap.get? c=a_ o->xr.get? c=a_ o:=λc o hc q=>by
   simp only[List.mem_cons,List.mem_nil_iff,or_false,not_or]at hc;exact(sb.2 c hc.1).trans (kk c o hc.1 hc.2 q)
  have I1:Inv X p_ σ H { s with heap:=xr,toks:=tk+1 }:=Inv.HL I k2 hf;have pT:=(sb.2 _ (cB eS)).trans c3;have fT:=I.iM (aw _) hp
  have I2:Inv X p_ σ (upd H s.heap.objs.size (.tup [.int i,x])) { s with heap:=xr,toks:=tk+1 }:=Inv.adopt I1 hp I.sz fT.2.1 fT.2.2.2.2.1 fT.2.2.2.2.2
   ⟨by show 2<=a9;decide,[.int i tk,y],.cons ⟨_,rfl⟩ (.cons ru .nil),⟨_,pT,rfl,_,rfl⟩⟩
  refine⟨(.ref s.heap.objs.size),_,I2,rfl,⟨_,x,hp,rfl,rfl,λxs' p1=>by rw[ID I p1 q1];exact hx⟩,⟨⟨_,by simpa using d1⟩,c2.1.at λo q=>(sb.2 _ (cB n1)).trans q⟩,(λc hc=>?_)⟩;simp only[List.mem_cons,List.mem_nil_iff,or_false]at hc;rcases hc with rfl | rfl
  ·rw[ag eS];exact(hf _ (by simp)).1
  ·rw[ag iS];exact(hf _ (by simp)).1
 done:=by
  intro X hP hw hK hc i p_ s σ H E I hf ⟨⟨old,a1⟩,a2⟩ hg;subst hP hw hK;refine ai hg λxs q1 D4=>aO (qg I q1) λvs r1 m1 _=>?_;have hl:=r1.length;have hT:s.TypeIs (.ref e) "enumerate":=⟨_,a1,rfl⟩;unfold pyNext;refine aj (FY (zv (name:=q9 "__next__") hT F.slot_enumerate_next (xE F.slot_enumerate_next hT F.entry_enumerate_next ?_ (F.args_enumerate_next_1 _))));show wpAny _ _ (field (.ref e) 2 >>= _) _ _ s;refine aj (jS a1 rfl (x:=.ref it) rfl (aj (next_end (show X.A.in1.handled=b_ from I.ok.hd hc) a2 m1 (by simp;lia) λh' y hk ⟨o,ho,xg⟩=>aj (MW (T:="StopIteration") (b:=c_) ⟨o,ho,xg⟩ isSubtype_stop (aM ⟨rfl,I.turned (t':=s.toks) (it:=it) (λc q hc z=>hk c q hc z) (hf it (by simp)).1 (hf it (by simp)).2.1 (hf it (by simp)).2.2.2.1 (hf it (by simp)).2.2.2.2.1 (hf it (by simp)).2.2.2.2.2⟩)))))
 self:=λ_ _ _ _ _ st h=>let ⟨_,a1⟩:=st.1;wpAny_pyIter_enum a1 h
section
variable{X:Cx}{pos:Pos}
def afy(b:Bool)(K:u_)(ta:TA):TI:=λσ H R=>ta σ H λvs H1=>∃l xs,vs=[.ref l]/\Sq b K H1 l xs/\R (Uu b K l) H1
theorem vD{b:Bool}{es:List Expr}{x1:Nat}(hg:Gl X "enumerate")(hm:X.mg "enumerate" = b_)(ha:PA X [a] ta)
  (hs:cA [a] X.env=[(d_,eval a X.env)]:=by rfl):PI X (.Tuple es x1 AO) (.Call (.Name "enumerate" p) [a] [] pos) (afy b X.K ta):=by
 intro p_ s σ H R I h;refine Call_ (oH I hg hm boot_enumerate (vg (AV (ha pos p_ s σ H _ I h) λus s1 vs H1 I1 r1 q1=>?_) hs rfl));obtain⟨l,xs,e,q1,q⟩:=q1;subst e;cases r1 with
 | cons r rr=>
  cases rr;cases r;obtain⟨A4,_,m1,_⟩:=qg I1 q1;have n1:=Jo I1 q1;refine ZE m1 λh' c1 c2 kk=>wpAny_pyIter_enum c1 (⟨_,_,_,_,H1,rfl,(I1.kept (t':=s1.toks) kk),(YW (FD _) (cI n1) (cB (cI (zF n1)))),⟨⟨_,c1⟩,c2⟩,(λc hc=>?_),q⟩)
  have iT:s1.heap.objs.size<=c:=by
   simp only[List.mem_cons,List.mem_nil_iff,or_false]at hc;rcases hc with rfl | rfl <;> lia
  exact I1.iM iT (I1.aD.fresh iT)
end
end L2
namespace L2
open PySem.SeqAt L3
def SU:V->Option f_
 | .ty n=>a_ (.type n)
 | .ref a=>a_ (.ref a)
 | _=>b_
theorem aa9(h:SU c=a_ cv)(r:RelV c u):u=cv:=by
 cases c with
 | ty n=>cases h;exact r
 | ref a=>cases h;exact r
 | _=>cases h
def Sw(K:u_):List V->Hp->VK->Prop:=λxs H Q=>∃x c t cv b,xs=[x,c]/\iO K H x t/\SU c=a_ cv/\v_ K t cv=a_ b/\Q (.bl b) H
section
variable{X:Cx}
theorem iV:jC X (.builtin "isinstance") (Sw X.K):=by
 intro p_ s σ H xs us Q I r h;refine fj h λx c t cv b aa=>JC aa λe ty hc hk q=>?_;subst e;cases r with
 | cons r1 r2=>
  cases r2 with
  | cons r2 r3=>
   cases r3;cases aa9 hc r2;exact Zu I r1 ty hk λtk=>(dZ (.bl b) H (I.tok tk) rfl q)
theorem range_all(bs:List Bool):(List.range bs.length).all (λi=>bs.getD i d_)=bs.all id:=by
 induction bs with
 | nil=>rfl
 | cons b r ih=>
  rw[List.length_cons,List.range_succ_eq_map,List.all_cons,List.all_map,List.all_cons];simp only[List.getD_cons_zero,id]
  congr 1
theorem OI:∀{bs:List Bool} {us:List f_},Vals (bs.map V.bl) us->us=bs.map tF
 | [],_,r=>by cases r;rfl
 | b::bs,_,r=>by
  cases r with
  | cons r1 r2=>
   cases r1;rw[List.map_cons,OI r2]
theorem X6(bs:List Bool):TruthOf X.prog X.w A (λi v=>(bs.map tF).toArray[i]?=a_ v) (λi=>bs.getD i d_):=by
 intro i v s Q E h q;have h':(bs.map tF)[i]?=a_ v:=by simpa using h
 rw[List.getElem?_map]at h';cases e:bs[i]? with
 | none=>rw[e]at h';cases h'
 | some b=>
  rw[e]at h';have hv:=(cu h').symm;subst hv;have hq:bs.getD i d_=b:=by rw[List.getD_eq_getElem?_getD,e];rfl
  have q':Q (bs.getD i d_) s:=q;rw[hq]at q';exact ni q'
def agW(K:u_):List V->Hp->VK->Prop:=λxs H Q=>∃(p:e_) (bs:List Bool),xs=[.ref p]/\ae K H p (bs.map V.bl)/\Q (.bl (bs.all id)) H
theorem CG(hc:X.calm=c_):jC X (.builtin "all") (agW X.K):=by
 intro p_ s σ H xs us Q I r h;refine dC h λp bs e hq q=>?_;subst e;refine ai (vals1 r) λu aa rx=>?_;subst aa;cases rx;refine aO (I.list hq) λits rv pl hz=>?_;have ei:=OI rv;subst ei
 have eA:p≠s.heap.objs.size:=by
  exact ai pl.isList λo e _=>cI (bq e)
 refine call_all_walk (xC pl.isList (⟨_,_,_,_,_,_,(gL _ rfl (Ca (show X.A.in1.handled=b_ from I.ok.hd hc) _ p eA (bs.map tF).toArray) ⟨⟨_,dw _ rfl,rfl,rfl⟩,pl.isList.push _⟩ (X6 bs) λh' tk kk=>?_)⟩))
 have e2:(List.range (bs.map tF).toArray.size).all (λi=>bs.getD i d_)=bs.all id:=by
  rw[List.size_toArray,List.length_map];exact range_all bs
 rw[e2];refine dZ (.bl _) H (I.kept λb o e=>kk b o (λz=>?_) (aY _ e)) rfl q;have z':b=s.heap.objs.size:=by simpa using z
 rw[z']at e;exact absurd (bq e) (nu _)
mutual
inductive i6 (K:u_) (H:Hp):V->PyData->Prop
 | aH:i6 K H .aH .none
 | bl (b:Bool):i6 K H (.bl b) (.bool b)
 | int (i:Int):i6 K H (.int i) (.int i)
 | str (x:Str):i6 K H (.str x) (.str x)
 | lst {a:e_} {xs:List V} {ds:List PyData}:ae K H a xs->kg K H xs ds->i6 K H (.ref a) (.list ds)
 | tup {a:e_} {xs:List V} {ds:List PyData}:aB K H a xs->kg K H xs ds->i6 K H (.ref a) (.tuple ds)
inductive kg (K:u_) (H:Hp):List V->List PyData->Prop
 | nil:kg K H [] []
 | cons {x:V} {d:PyData} {xs:List V} {ds:List PyData}:i6 K H x d->kg K H xs ds->kg K H (x::xs) (d::ds)
end
variable{p_:List (e_×Obj)}{σ:St}{H:Hp}{s:g_}
mutual
theorem i6.reads(I:Inv X p_ σ H s):∀{v:V} {d:PyData} {u:f_},i6 X.K H v d->RelV v u->∃as,Reads s.heap u d as
 | _,_,_,.aH,r=>by cases r;exact⟨_,.none⟩
 | _,_,_,.bl b,r=>by cases r;exact⟨_,.bool b⟩
 | _,_,_,.int i,r=>by obtain⟨t,e⟩:=r;subst e;exact⟨_,.int i t⟩
 | _,_,_,.str x,r=>by obtain⟨t,e⟩:=r;subst e;exact⟨_,.str x t⟩
 | _,_,_,.lst hq hs,r=>by
  cases r;exact aO (I.list hq) λits rv pl hz=>oE (kg.reads I hs rv) λas h=>aO pl.isList λo ho hc aa=>oE aa λn hd=>⟨_,.list ho hc hd (by simpa using h)⟩
 | _,_,_,.tup hq hs,r=>by
  cases r;exact aO (I.tuple hq) λits rv pl hz=>oE (kg.reads I hs rv) λas h=>aO pl λo ho hc aa=>oE aa λn hd=>⟨_,.tuple ho hc hd (by simpa using h)⟩
theorem kg.reads(I:Inv X p_ σ H s):∀{vs:List V} {ds:List PyData} {us:List f_},kg X.K H vs ds->Vals vs us->∃as,ReadsAll s.heap us ds as
 | _,_,_,.nil,r=>by cases r;exact⟨_,.nil⟩
 | _,_,_,.cons h t,r=>by
  cases r with
  | cons r1 r2=>
   exact oE (i6.reads I h r1) λas q1=>oE (kg.reads I t r2) λbs q2=>⟨_,.cons q1 q2⟩
end
def Kb(K:u_)(neg:Bool):R2:=λx y H Q=>∃d e,i6 K H x d/\i6 K H y e/\shaped d=c_/\shaped e=c_/\noMix d e=c_/\Q (.bl (if neg=c_ then !same d e else same d e)) H
theorem QZ(hu:X.A.units+64<cLine):dD X (fw .Eq) (Kb X.K d_):=by
 intro p_ s σ H x y v u Q I rx ry h;exact dX h λd e h1 h2 h3 h4 h5 q=>oE (h1.reads I rx) λas q1=>oE (h2.reads I ry) λbs q2=>eq_dataH_same q1 q2 h3 h4 hu h5 (dZ (.bl _) H I rfl q)
theorem QY(hu:X.A.units+64<cLine):dD X (fw .NotEq) (Kb X.K c_):=by
 intro p_ s σ H x y v u Q I rx ry h;exact dX h λd e h1 h2 h3 h4 h5 q=>oE (h1.reads I rx) λas q1=>oE (h2.reads I ry) λbs q2=>ne_dataH_same q1 q2 h3 h4 hu h5 (dZ (.bl _) H I rfl q)
theorem vq{K:u_}:∀ns:List Int,kg K H (ns.map V.int) (ns.map oq)
 | []=>.nil
 | n::r=>.cons (.int n) (vq r)
theorem Pr{K:u_}{H:Hp}{a:e_}{ns:List Int}(h:ae K H a (ns.map V.int)):i6 K H (.ref a) (.list (ns.map oq)):=.lst h (vq ns)
end
structure JQ(K:u_)(C:e_)(m:Str)(f:e_):Prop where
 sp:W.specialIn K (.ref C) "__getattribute__" = a_ (a_ (.builtin "type.__getattribute__"))
 rd:W.readsIn K C (.type "type")=c_
 fc:W.findCls K (.ref C) (.type "type") m=a_ (.val (.ref f))
 kp:x_ K (.ref f)=c_
section
variable{X:Cx}{CX:pe}{k:Nat}{f C:e_}{fd:lW}{ps:List Str}{sp:Sp}{dvs:List V}{ds:List f_}{E:XK}{x m:Str}{p pos apos:Pos}{e o:Expr}{es:List Expr}{ta:TE}{t:TA}
theorem Ge{pl:Sem Bool}(c:JQ X.K C m f)(F:ax X.prog X.w X.K X.mg X.base CX k f fd ps sp)(hr:eJ k X.A)(hg:Gl X x)(hm:X.mg x=a_ (.ref C))(hb:Binds X.K fd ps ds)(hd:Vals dvs ds)(hx:Passes CX X E)(ha:PA X (e::es) t)
  (sT:(x == ("__debug__" : Str))=false:=by decide) (dv:cA (e::es) X.env=(d_,eval e X.env)::cA es X.env:=by rfl) (eL:(backTo pos (cA es X.env)).any (·.1)=false:=by rfl)
  (ht:eval (.Call (.Attribute (.Name x p) m apos) (e::es) [] pos) X.env=(do
   let ov <-eval (.Name x p) X.env
   standAt apos.atName
   let (f,first) <-holding [ov] (z0 ov m pl)
   callWith pos f first (backTo pos (cA (e::es) X.env)) (yb pos (xM [] X.env))):=by rfl) :
  PE X (.Call (.Attribute (.Name x p) m apos) (e::es) [] pos) (RB sp dvs E t):=by
 intro p_ s σ H Q I h;refine W.methodCall_KW (pl:=pl) (CW I hg hm ?_ sT) ht;refine W.method_cls I.eD c.sp (W.cls_value I.eD c.rd c.fc rfl ?_);have I1:=I.tok (s.toks+1);refine G_ (first:=[]) (h₀:=X.base) I.ok.mod.yQ c.kp (AV (ha pos p_ _ σ H _ I1 h) λus s2 vs H2 I2 r q2=>⟨I2.eD,?_⟩) dv eL;exact Ap F hr hb hd hx I2 r q2
def acU(P:l_)(w:k_)(K:u_)(mg:Str->Option f_)(base:j_)(CX:pe)(k:Nat)(m:Str)(E:XK)(ta:TE):TE:=λσ H Q=>ta σ H λx H1=>∃a C dx fs f fd ps sp,x=.ref a/\H1 a=a_ (.ins C dx fs)/\fs.lookup m=b_/\fq K C/\Meth K C m f/\
 ax P w K mg base CX k f fd ps sp/\Binds K fd ps []/\sp [.ref a] H1 Q E
theorem aag{P:l_}{w:k_}{K:u_}{mg:Str->Option f_}{base:j_}{pl:Sem Bool}(he:PE X o ta)(hr:eJ k X.A)(hx:Passes CX X E)(hP:X.prog=P:=by rfl)(hw:X.w=w:=by rfl)(hK:X.K=K:=by rfl)(za:X.mg=mg:=by rfl)(hbs:X.base=base:=by rfl)
  (ht:eval (.Call (.Attribute o m apos) [] [] pos) X.env=(do
   let ov <-eval o X.env
   standAt apos.atName
   let (f,first) <-holding [ov] (z0 ov m pl)
   callWith pos f first (backTo pos (cA [] X.env)) (yb pos (xM [] X.env))):=by rfl) :
  PE X (.Call (.Attribute o m apos) [] [] pos) (acU P w K mg base CX k m E ta):=by
 subst hP hw hK za hbs;intro p_ s σ H Q I h;refine W.methodCall_KW (pl:=pl) (aI (he p_ s σ H _ I h) λu s1 hh=>?_) ht;refine dC hh λx H1 I1 rx aa=>fj aa λa C dx fs f aa=>iY aa λfd ps sp ex ea aa=>qe aa λl c hm F hb q=>?_;subst ex;obtain rfl:u=cR a:=rx;exact Gg I1 ea c hm l (W.callWith_K0 (first:=[.ref a]) I1.eD hm.kp (Ap (us:=[.ref a]) (vs:=[.ref a]) (dvs:=[]) (ds:=[]) F hr hb .nil hx I1 (.cons rfl .nil) q))
end
theorem bQ{c A B:Prop}[Decidable c](h1:c->A)(h2:¬c->B):if decide c=c_ then A else B:=by
 by_cases h:c
 ·rw[decide_eq_true h];exact r6 (h1 h)
 ·rw[decide_eq_false h];exact dJ (h2 h)
theorem lg{c A B:Prop}[Decidable c](h1:¬c->A)(h2:c->B):if (!decide c)=c_ then A else B:=by
 by_cases h:c
 ·rw[decide_eq_true h];exact dJ (h2 h)
 ·rw[decide_eq_false h];exact r6 (h1 h)
theorem Kg{b:Bool}{A B:Prop}(h1:b=c_->A)(h2:b=d_->B):if b=c_ then A else B:=by
 cases b with
 | true=>exact r6 (h1 rfl)
 | false=>exact dJ (h2 rfl)
theorem JG{b:Bool}{A B:Prop}(h1:b=d_->A)(h2:b=c_->B):if (!b)=c_ then A else B:=by
 cases b with
 | true=>exact dJ (h2 rfl)
 | false=>exact r6 (h1 rfl)
def Su(sc out:i_)(XN N:List Str)(idx:List Nat):Bool:=
 decide (sc.kind=.function)&&(sc.names.all (λy=>decide (y.2≠.cell))&&(sc.names.all (λy=>decide (y.2≠.local)||decide (sc.names.lookup y.1=a_ .local)) && (sc.names.all (λy=>decide (y.2≠.free)||decide (out.names.lookup y.1=a_ .cell))&&(decide (idx.length<=N.length)&&(idx.zip N).all λp=>decide (XN[p.1]?=a_ p.2)&&decide (sc.names.lookup p.2=a_ .free)))))
theorem cZ.of{X:Cx}{sc:i_}{idx:List Nat}(h:Su sc X.env.scope X.N N idx=c_):cZ X sc N idx:=by
 unfold Su at h;simp only[nj,decide_eq_true_eq,List.all_eq_true,Bool.or_eq_true]at h;refine qe h λh1 h2 h3 h4 h5 h6=>⟨h1,h2,λy hy e=>?_,λy hy e=>?_,h5,λk i x a b=>?_⟩
 ·rcases h3 y hy with z | z
  ·exact absurd e z
  ·exact z
 ·rcases h4 y hy with z | z
  ·exact absurd e z
  ·exact z
 ·have hm:(i,x)∈idx.zip N:=by
   have:(idx.zip N)[k]?=a_ (i,x):=by rw[List.getElem?_zip_eq_some];exact⟨a,b⟩
   exact List.mem_of_getElem? this
  exact h6 (i,x) hm
end L2
namespace TL
open L2 L3
def kinds:List String:=["NoneType","bool","int","str","list","tuple"]
def Ri:List String:=["int","bool","str","tuple","list"]
def yw(T U:String):Bool:=T == U||(T == "bool" && U == "int")
theorem adQ(K:u_)(T U:String):v_ K (.type T) (.type U) =
  (if (pY T == pY U)=c_ then a_ c_ else if W.kitMeta U=c_ then (fastBuiltinMro T).map (·.contains (.type U)) else b_):=rfl
theorem acx:∀T∈kinds,∀U∈Ri,(if (pY T == pY U)=c_ then a_ c_ else if W.kitMeta U=c_ then (fastBuiltinMro T).map (·.contains (.type U)) else b_)=a_ (yw T U):=dk
def tyName(H:Hp):V->Option String
 | .aH=>a_ "NoneType"
 | .bl _=>a_ "bool"
 | .int _=>a_ "int"
 | .str _=>a_ "str"
 | .ref a=>match H a with
  | some (.lst _)=>a_ "list"
  | some (.tup _)=>a_ "tuple"
  | _=>b_
 | _=>b_
theorem Ob{K:u_}{T:String}(h:tyName H v=a_ T):iO K H v (.type T)/\T∈kinds:=by
 cases v with
 | aH=>cases h;exact⟨.aH,qc⟩
 | bl b=>cases h;exact⟨.bl b,qc⟩
 | int i=>cases h;exact⟨.int i,qc⟩
 | str x=>cases h;exact⟨.str x,qc⟩
 | ref a=>
  unfold tyName at h;cases e:H a with
  | none=>simp only[e]at h;cases h
  | some o=>
   cases o with
   | lst xs=>simp only[e]at h;cases h;exact⟨.lst e,qc⟩
   | tup xs=>simp only[e]at h;cases h;exact⟨.tup e,qc⟩
   | _=>simp only[e]at h;cases h
 | _=>cases h
theorem oO{K:u_}{T U:String}(h:tyName H v=a_ T)(hU:U∈Ri):v_ K (.type T) (.type U)=a_ (yw T U):=by
 rw[adQ];exact acx T (Ob (K:=K) h).2 U hU
theorem oS{K:u_}{T:String}(h:tyName H v=a_ T):iO K H v (.type T):=(Ob h).1
theorem xN(h:H a=a_ (.tup xs)):tyName H (.ref a)=a_ "tuple":=by
 unfold tyName;simp only[h]
theorem aE{o:HO}(s:ah H H')(h:H' p=b_):ah H (upd H' p o):=λb u e=>by
 rw[ag (cG (s b u e) h)];exact s b u e
end TL
namespace L4
open PySem.Builtin PySem.Builtin.Str
abbrev Tl:=Str×List Nat
inductive gf (sz:Nat):Tl->Prop
 | set (n r:Nat):n<12->r<4->gf sz ("set",[n,r])
 | look (r n:Nat):r<4->n<12->gf sz ("look",[r,n])
 | skip (r q:Nat):r<4->q<=sz->q<=120->gf sz ("skip",[r,q])
abbrev Pt:=List Tl
structure yp(ps:List Pt):Prop where
 ne:1<=ps.length
 le:ps.length<=4
 part:∀p∈ps,p.length<=120/\∀t∈p,gf p.length t
end L4
namespace L2
open TL
theorem nw{o:HO}(n:H l=b_):∃H',upd H l o=H'/\ah H H'/\H' l=a_ o:=⟨_,rfl,aE (ah.refl _) n,ao⟩
theorem sl{n:Nat}(h:n<=1000:=by decide):n<=a9:=by rw[eM];exact cx h qc
end L2
set_option autoImplicit true
namespace L2
abbrev IV:=Nat->St->Hp->Prop
theorem pR{X:Cx}{l:List PySem.Stmt}(R:TS)(h:fg X l R):fg X l R:=h
end L2
namespace TL
open L2 L3 L4
structure Bl(mg:Str->Option f_):Prop where
 i8:mg "isinstance" = b_
 int:mg "int" = b_
 bool:mg "bool" = b_
 str:mg "str" = b_
 tuple:mg "tuple" = b_
 len:mg "len" = b_
 all:mg "all" = b_
 zip:mg "zip" = b_
structure Cn(mg:Str->Option f_):Prop where
 names:∃u,mg "NAMES" = a_ u/\RelV (.int 12) u
 gg:∃u,mg "REGISTERS" = a_ u/\RelV (.int 4) u
 long:∃u,mg "LONGEST" = a_ u/\RelV (.int 120) u
def tv(t:Tl):List V:=.str t.1::t.2.map λ(n:Nat)=>V.int (n:Int)
def Ta(x:Str)(b c:Nat):Prop:=x = "set"/\b=12/\c=4\/x = "look"/\b=4/\c=12\/x = "skip"/\b=4/\c=121
theorem gf.two{sz:Nat}(g:gf sz s):∃(x:Str) (p q b c:Nat),s=(x,[p,q])/\Ta x b c/\p<b/\q<c:=by
 cases g with
 | set n r h1 h2=>exact⟨_,_,_,_,_,rfl,.inl ⟨rfl,rfl,rfl⟩,h1,h2⟩
 | look r n h1 h2=>exact⟨_,_,_,_,_,rfl,.inr (.inl ⟨rfl,rfl,rfl⟩),h1,h2⟩
 | skip r q h1 h2 h3=>exact⟨_,_,_,_,_,rfl,.inr (.inr ⟨rfl,rfl,rfl⟩),h1,li⟩
theorem iZ{A B:Prop}(b:B)(h:¬x=y:=by decide +kernel):if decide (V.str x=V.str y)=c_ then A else B:=bQ (λe=>absurd (V.str.inj e) h) λ_=>b
theorem Az{A B:Prop}(a:A):if decide (V.str x=V.str x)=c_ then A else B:=bQ (λ_=>a) λz=>absurd rfl z
theorem Iv(n:Nat):(List.replicate n c_).all id=true:=by
 induction n with
 | zero=>rfl
 | succ n ih=>rw[List.replicate_succ,List.all_cons,ih];rfl
theorem acQ{p q b c i:Nat}(h1:p<b)(h2:q<c)(hx:[V.int (p:Nat),.int (q:Nat)][i]?=a_ x)(hy:[V.int (b:Nat),.int (c:Nat)][i]?=a_ y):∃j l:Int,x=.int j/\y=.int l/\0<=j/\j<l:=by
 match i with
 | 0=>cases hx;cases hy;exact⟨_,_,rfl,rfl,li,li⟩
 | 1=>cases hx;cases hy;exact⟨_,_,rfl,rfl,li,li⟩
 | _+2=>cases hx
section
variable{P:l_}{w:k_}{K:u_}{mg:Str->Option f_}{base:j_}
def CL:Sp:=λvs H Q _=>∃i:Int,vs=[.int i]/\Q (.bl c_) H
theorem abE:bf ["thing"] ["thing"] (aR yj):=bz
theorem Hv(F:aU K "is_whole" "is_whole" yj f fd)(yE:mg "isinstance" = b_)(hint:mg "int" = b_)(ags:mg "bool" = b_):ax P w K mg base ay 1 f fd ["thing"] CL:=by
 refine F.ok abE λaL A _ s H vs Q E hr h=>?_
 ·refine ai h λi aa k=>?_;subst aa;have ht:tyName H (.int i)=a_ "int":=rfl;exact sj (aG (bg (rK (bw iV rfl yE je (ab (pv 0) (ab (oB (v:=.ty "int") rfl hint boot_int rfl) af))) (tP (QW (bw iV rfl yE je (ab (pv 0) (ab (oB (v:=.ty "bool") rfl ags boot_bool rfl) af)))))))) (aA _ rfl (dY _ _ _ _ (gL _ rfl (oS ht) rfl (oO ht qc) (aA _ rfl (Kg (λ_=>aA _ rfl (dY _ _ _ _ (gL _ rfl (oS ht) rfl (oO ht qc) (aA _ rfl k)))) λh1=>absurd h1 qc)))))
def O0:Sp:=λvs H Q _=>∃x b c,vs=[.str x]/\Ta x b c/\∀p,H p=b_->Q (.ref p) (upd H p (.lst [.int (b:Nat),.int (c:Nat)]))
theorem Z8:bf ["word"] ["word"] (aR Ag):=bz
theorem Zb(F:aU K "bounds_of" "bounds_of" Ag f fd)(C:Cn mg):ax P w K mg base ay 1 f fd ["word"] O0:=by
 refine F.ok Z8 λaL A _ s H vs Q E hr h=>?_
 ·obtain⟨x,b,c,aa,hb,k⟩:=h;subst aa;refine ai C.names λuN mN rN=>ai C.gg λuR mR rR=>ai C.long λuL mL rL=>?_
  refine let R4:TS:=_;let R7:TS:=_;let R8:TS:=_;let R9:TS:=_;let fu:TS:=_;let nY:TS:=_;⟨_,ar (bZ (bo cH (pv 0) cJ (a7 _)) gV cp) (pR nY (ar (bZ (bo cH (pv 0) cJ (a7 _)) gV cp) (pR fu (ar (bZ (bo cH (pv 0) cJ (a7 _)) (aG (bg (dy (ab (gx rfl mN rN) (ab (gx rfl mR rR) af))))) cp) (pR R9 (ar (bZ (PW.pt (pw_or (bo cH (pv 0) cJ (a7 _)) (pw_or1 (bo cH (pv 0) cJ (a7 _))))) (pR R4 (aG (bg (dy (ab (gx rfl mR rR) (ab (gx rfl mN rN) af)))))) cp) (pR R8 (ar (bZ (bo cH (pv 0) cJ (a7 _)) gV cp) (pR R7 (ar (bZ (bo cH (pv 0) cJ (a7 _)) (aG (bg (dy (ab (gx rfl mR rR) (ab (aW fJ (gx rfl mL rL) aq) af))))) cp)
   gV)))))))))),?_⟩
  rcases hb with ⟨rfl,rfl,rfl⟩ | ⟨rfl,rfl,rfl⟩ | ⟨rfl,rfl,rfl⟩ <;> refine vr rfl ⟨rfl,_,rfl,iZ ⟨_,rfl,rfl,_,rfl,iZ ⟨_,rfl,rfl,_,rfl,?_⟩⟩⟩
  ·exact Az ⟨qc,k⟩
  ·exact iZ ⟨_,rfl,rfl,_,rfl,Az (r6 ⟨qc,k⟩)⟩
  ·exact iZ ⟨_,rfl,rfl,_,rfl,iZ ⟨_,rfl,rfl,_,rfl,iZ ⟨_,rfl,rfl,_,rfl,iZ ⟨_,rfl,rfl,_,rfl,Az ⟨_,_,rfl,rfl,qc,k⟩⟩⟩⟩⟩
def OX:Sp:=λvs H Q _=>∃a s sz,vs=[.ref a]/\H a=a_ (.tup (tv s))/\gf sz s/\∀H',ah H H'->Q (.bl c_) H'
theorem O8:bf ["told","bounds"] ["told"] (aR CQ):=bz
theorem J9(y:V)(ps:List V):HT.cj (y::ps).length 0 (a_ 1)=1:=by
 simp only[HT.cj,List.length_cons]
 first | omega | (simp;done) | (split <;> omega)
theorem Kj(y:V)(ps:List V):ik (y::ps) (a_ 1) b_=ps:=by
 unfold ik;rw[J9];show List.take (HT.cj (y::ps).length (y::ps).length b_-1) ps=ps;exact List.take_of_length_le (by simp[HT.cj])
theorem RL:(["part","bound"]:List Str).Nodup:=dk
theorem Za(F:aU K "is_step" "is_step" CQ f fd)(B:Bl mg)(C:Cn mg)
  (FW:aU K "is_whole" "is_whole" yj fW nR) (bW:Binds K nR ["thing"] []) (mW:mg "is_whole" = a_ (.ref fW)) (FB:aU K "bounds_of" "bounds_of" Ag fB mz) (bB:Binds K mz ["word"] []) (mB:mg "bounds_of" = a_ (.ref fB)) :
  ax P w K mg base ay 2 f fd ["told"] OX:=by
 have GW:ax P w K mg base ay 1 fW nR ["thing"] CL:=Hv FW B.i8 B.int B.bool;have GB:ax P w K mg base ay 1 fB mz ["word"] O0:=Zb FB C;refine F.ok O8 λaL A _ s H vs Q E hr h=>?_
 ·obtain⟨a,st,sz,aa,ha,g,k⟩:=h;subst aa;obtain⟨x,p,q,b,c,rfl,hb,h1,h2⟩:=gf.two g
  refine let R1:TS:=_;let R2:TS:=_;let R3:TS:=_;⟨_,ar (bZ (PW.pt (pw_or (jW (gd (bw iV rfl B.i8 je (ab (pv 0) (ab (oB (v:=.ty "tuple") rfl B.tuple pX rfl) af))))) (pw_or (bo cH (bw dP rfl B.len q_ (ab (pv 0) af)) aq (a7 _)) (pw_or1 (jW (gd (bw iV rfl B.i8 je (ab (aJ cq (pv 0) aq) (ab (oB (v:=.ty "str") rfl B.str boot_str rfl) af))))))))) (aG (bg nG)) cp) (pR R3 (ar (bp (i:=1) O8.nd rfl (aF rfl) (cU GB hr rfl mB FB.kp bB .nil aT (ab (aJ cq (pv 0) aq) af))) (pR R2 (ar (bZ (PW.pt (pw_or (bo IZ (pv 1) kY (a7 _)) (pw_or1 (bo vU (bw dP rfl B.len q_ (ab (pv 0) af)) (aW fJ (bw dP rfl B.len q_ (ab (pv 1) af)) aq) (a7 _))))) (aG (bg nG)) cp) (pR R1 (aG (bg (bw (CG rfl) rfl B.all boot_all (ab (g6 (N:=["part","bound"]) (idx:=[]) rfl (cZ.of (by kernel_rfl)) (xQ (aP _) (aP _))
    (IW (b1:=d_) (b2:=c_) rfl B.zip (ab (x8 QP (pv 0) (vC aq) Aj) (ab (pv 1) af)))
    (λ_ _ _ _=>kX rfl (dn (bb (i:=0) RL rfl (aF rfl) (.inr rfl)) (dn (bb (i:=1) RL rfl (aF rfl) (.inr rfl)) kQ)))
    (λ_ _ _ _=>gZ)
    λ_ _ _ _=>rK (cU GW hr rfl mW FW.kp bW .nil aT (ab (pv 0) af)) (tP (aak JB Av aq (pv 0) (pv 1)))) af))))))))),?_⟩
  have hT:=xN ha;have hi:yw "tuple" "tuple" = true:=qc;refine vr rfl (dY _ _ _ _ (gL _ rfl (oS hT) rfl (oO hT qc) (aA _ rfl ?_)));rw[hi];have hS:tyName H (.str x)=a_ "str":=rfl;refine dJ (vr rfl (dZ a _ rfl (.inr (aB.of ha)) ⟨rfl,_,rfl,bQ (λe=>by cases e) λ_=>gj (v:=.str x) (j:=0) rfl ha rfl (dY _ _ _ _ (gL _ rfl (oS hS) rfl (oO hS qc) (aA _ rfl (JG (λz=>absurd z qc) λ_=>gj (v:=.str x) (j:=0) rfl ha rfl ⟨x,b,c,rfl,hb,λl hl=>aO (nw (o:=.lst [.int (b:Nat),.int (c:Nat)]) hl) λH1 e1 s1 eB=>?_⟩))))⟩));rw[e1];clear e1;have Fc:=s1 _ _ ha;refine aA _ rfl ⟨rfl,_,rfl,bQ (λz=>by cases z) λ_=>vr rfl ⟨a,_,rfl,.inr (aB.of Fc),_,rfl,l,_,rfl,.inl (ae.of eB),_,_,rfl,rfl,rfl,_,rfl,lg (λz=>absurd rfl z) λ_=>aA _ rfl (aA 1 rfl ⟨a,_,rfl,aB.of Fc,λz=>absurd ((J9 (.str x) _).symm.trans z.1) qc,λt ht=>?_⟩)⟩⟩;rw[show ik (tv (x,[p,q])) (a_ 1) b_=[.int (p:Nat),.int (q:Nat)] from Kj _ _];refine aO (nw (o:=.tup [.int (p:Nat),.int (q:Nat)]) ht) λH2 e2 s2 wX=>?_;rw[e2];clear e2;have jc:=s2 _ _ eB;refine vr rfl ⟨t,l,_,_,rfl,aB.of wX,ae.of jc,eN (n:=2) (λi ys H'=>ah H2 H'/\ys=(List.replicate i c_).map V.bl) sl ⟨ah.refl _,rfl⟩ (λi ys H' z=>by rw[z.2,List.length_map,List.length_replicate];exact aw _) ?_ ?_ ?_ ?_⟩
  ·intro i ys H' hi z;exact⟨_,_,[V.int (p:Nat),.int (q:Nat)][i],[V.int (b:Nat),.int (c:Nat)][i],aB.of (z.1 _ _ wX),ae.of (z.1 _ _ jc),List.getElem?_eq_getElem hi,List.getElem?_eq_getElem hi⟩
  ·intro ys H' z;exact⟨_,_,aB.of (z.1 _ _ wX),ae.of (z.1 _ _ jc),.inr (aw _)⟩
  ·rintro i ys H' hi ⟨s3,e⟩ v iE ⟨r,x,y,dE,ev,eH,uP⟩;subst ev;subst eH;refine oA (uP _ _ (aB.of (s3 _ _ wX)) (ae.of (s3 _ _ jc))) λeV y3=>?_;obtain⟨j,l,rfl,rfl,h0,VQ⟩:=acQ h1 h2 eV y3;refine⟨r,_,rfl,(aB.of ao),rfl,(eO _ _ rfl (dZ _ ([]) rfl rfl ?_))⟩;dsimp only[mf];rw[if_pos rfl];refine vr rfl ⟨j,rfl,_,rfl,r6 (aA _ rfl (eO 0 j rfl ⟨rfl,_,rfl,bQ (λ_=>vr rfl ⟨j,l,rfl,rfl,aE s3 dE,?_⟩) λz=>absurd h0 z⟩))⟩;show ys++[V.bl (decide (j<l))]=_;rw[decide_eq_true VQ,e,List.replicate_succ',List.map_append];rfl
  ·rintro ys H' ⟨s3,e⟩;refine⟨by rw[e];exact sl,λr dE=>⟨r,List.replicate 2 c_,rfl,ae.of (by rw[ao,e]),?_⟩⟩;rw[Iv];exact k _ (aE ((s1.trans s2).trans s3) dE)
def C7(K:u_):Sp:=λvs H Q _=>∃x C dx fs a xs,vs=[.ref x,.ref a]/\H x=a_ (.ins C dx fs)/\fq K C/\cV K C "parts"/\fs.length<900/\H a=a_ (.tup xs)/\Q .aH (upd H x (.ins C dx (aQ "parts" (.ref a) fs)))
theorem ac5:bf zLe zLe (aR Dt):=bz
theorem Ii(F:aU K "__init__" "Step.__init__" Dt f fd)(B:mg "tuple" = b_):ax P w K mg base ay 1 f fd zLe (C7 K):=by
 refine F.ok ac5 λaL A _ s H vs Q E hr h=>?_
 ·obtain⟨x,C,dx,fs,a,xs,aa,hx,cl,nP,a8⟩:=h;subst aa;exact dg a8 λhl ha k=>sj (aG (hZ (pv 0) (pZ zJ rfl B pX (ab (pv 1) af)) rfl)) (vr rfl (eO a xs rfl (.inr ⟨aB.of ha,_,rfl,x,C,dx,fs,rfl,hx,cl,nP,wa,k⟩)))
theorem Ke(f:Str)(u:V):(aQ f u []).length<1000:=by
 have h1:=pV f u [];have h3:([]:List (Str×V)).length=0:=rfl;exact wb
theorem Kd(f g:Str)(u v:V):(aQ f u (aQ g v [])).length<1000:=by
 have h1:=pV f u (aQ g v []);have h2:=pV g v [];have h3:([]:List (Str×V)).length=0:=rfl;exact xi
structure DC(K:u_)(mg:Str->Option f_)(cS fI:e_)(jt:lW):Prop where
 fn:aU K "__init__" "Step.__init__" Dt fI jt
 bi:Binds K jt zLe []
 cf:JQ K cS "__init__" fI
 at_:mg "Step" = a_ (.ref cS)
 tup:mg "tuple" = b_
def yI(C:e_)(f1 f2:Str):Sp:=λvs H Q _=>∃x dx a xs v1 v2,vs=[.ref x,.ref a]/\H x=a_ (.ins C dx [])/\H a=a_ (.tup xs)/\xs[1]?=a_ v1/\xs[2]?=a_ v2/\
 Q .aH (upd H x (.ins C dx (aQ f2 v2 (aQ f1 v1 (aQ "parts" (.ref a) [])))))
theorem ac0:bf zLe zLe (aR Ds):=bz
theorem ab8(F:aU K "__init__" "Set.__init__" Ds f fd)(I:DC K mg cS fI jt)(cl:fq K C)(nP:cV K C "parts")(n1:cV K C "name")(n2:cV K C "reg") :
  ax P w K mg base ay 2 f fd zLe (yI C "name" "reg"):=by
 have GI:ax P w K mg base ay 1 fI jt zLe (C7 K):=Ii I.fn I.tup;refine F.ok ac0 λaL A _ s H vs Q E hr h=>?_
 ·obtain⟨x,dx,a,xs,v1,v2,aa,hx,ha,e1,a8⟩:=h;subst aa;refine oA a8 λe2 k=>?_;refine let R1:TS:=_;let R2:TS:=_;⟨_,ar (dq (Ge I.cf GI hr rfl I.at_ I.bi .nil aT (ab (pv 0) (ab (pv 1) af)))) (pR R2 (ar (hZ (pv 0) (aJ cq (pv 1) aq) rfl) (pR R1 (aG (hZ (pv 0) (aJ cq (pv 1) aq) rfl))))),?_⟩
  have pk:=ie ha hx (by intro z;cases z);refine vr rfl (vr rfl ⟨x,⟨C,dx,[],a,xs,rfl,hx,cl,nP,qc,ha,vT (v:=v1) rfl (aB.of (by rw[ag pk];exact ha)) (cX (j:=1) e1) ⟨_,rfl,x,C,dx,_,rfl,ao,cl,n1,Ke _ _,vT (v:=v2) rfl (aB.of (by rw[ag pk,ag pk];exact ha)) (cX (j:=2) e2) ⟨_,rfl,x,C,dx,_,rfl,ao,cl,n2,Kd _ _ _ _,?_⟩⟩⟩⟩);rw[vA,vA];exact k
theorem abI:bf zLe zLe (aR Dd):=bz
theorem aax(F:aU K "__init__" "Look.__init__" Dd f fd)(I:DC K mg cS fI jt)(cl:fq K C)(nP:cV K C "parts")(n1:cV K C "reg")(n2:cV K C "name") :
  ax P w K mg base ay 2 f fd zLe (yI C "reg" "name"):=by
 have GI:ax P w K mg base ay 1 fI jt zLe (C7 K):=Ii I.fn I.tup;refine F.ok abI λaL A _ s H vs Q E hr h=>?_
 ·obtain⟨x,dx,a,xs,v1,v2,aa,hx,ha,e1,a8⟩:=h;subst aa;refine oA a8 λe2 k=>?_;refine let R1:TS:=_;let R2:TS:=_;⟨_,ar (dq (Ge I.cf GI hr rfl I.at_ I.bi .nil aT (ab (pv 0) (ab (pv 1) af)))) (pR R2 (ar (hZ (pv 0) (aJ cq (pv 1) aq) rfl) (pR R1 (aG (hZ (pv 0) (aJ cq (pv 1) aq) rfl))))),?_⟩
  have pk:=ie ha hx (by intro z;cases z);refine vr rfl (vr rfl ⟨x,⟨C,dx,[],a,xs,rfl,hx,cl,nP,qc,ha,vT (v:=v1) rfl (aB.of (by rw[ag pk];exact ha)) (cX (j:=1) e1) ⟨_,rfl,x,C,dx,_,rfl,ao,cl,n1,Ke _ _,vT (v:=v2) rfl (aB.of (by rw[ag pk,ag pk];exact ha)) (cX (j:=2) e2) ⟨_,rfl,x,C,dx,_,rfl,ao,cl,n2,Kd _ _ _ _,?_⟩⟩⟩⟩);rw[vA,vA];exact k
theorem abG:bf zLe zLe (aR C9):=bz
theorem aau(F:aU K "__init__" "Skip.__init__" C9 f fd)(I:DC K mg cS fI jt)(cl:fq K C)(nP:cV K C "parts")(n1:cV K C "reg")(n2:cV K C "place") :
  ax P w K mg base ay 2 f fd zLe (yI C "reg" "place"):=by
 have GI:ax P w K mg base ay 1 fI jt zLe (C7 K):=Ii I.fn I.tup;refine F.ok abG λaL A _ s H vs Q E hr h=>?_
 ·obtain⟨x,dx,a,xs,v1,v2,aa,hx,ha,e1,a8⟩:=h;subst aa;refine oA a8 λe2 k=>?_;refine let R1:TS:=_;let R2:TS:=_;⟨_,ar (dq (Ge I.cf GI hr rfl I.at_ I.bi .nil aT (ab (pv 0) (ab (pv 1) af)))) (pR R2 (ar (hZ (pv 0) (aJ cq (pv 1) aq) rfl) (pR R1 (aG (hZ (pv 0) (aJ cq (pv 1) aq) rfl))))),?_⟩
  have pk:=ie ha hx (by intro z;cases z);refine vr rfl (vr rfl ⟨x,⟨C,dx,[],a,xs,rfl,hx,cl,nP,qc,ha,vT (v:=v1) rfl (aB.of (by rw[ag pk];exact ha)) (cX (j:=1) e1) ⟨_,rfl,x,C,dx,_,rfl,ao,cl,n1,Ke _ _,vT (v:=v2) rfl (aB.of (by rw[ag pk,ag pk];exact ha)) (cX (j:=2) e2) ⟨_,rfl,x,C,dx,_,rfl,ao,cl,n2,Kd _ _ _ _,?_⟩⟩⟩⟩);rw[vA,vA];exact k
structure aZ where
 (fW fB fS fO fI Ki JK JJ afE AK AL jn jB AB i3:e_)
 (nR mz kj lD jt Dy Dn Dm:lW)
structure tR(K:u_)(mg:Str->Option f_)(t:aZ):Prop where
 bl:Bl mg
 cn:Cn mg
 KW:aU K "is_whole" "is_whole" yj t.fW t.nR
 bW:Binds K t.nR ["thing"] []
 mW:mg "is_whole" = a_ (.ref t.fW)
 fnB:aU K "bounds_of" "bounds_of" Ag t.fB t.mz
 bB:Binds K t.mz ["word"] []
 mB:mg "bounds_of" = a_ (.ref t.fB)
 Uj:aU K "is_step" "is_step" CQ t.fS t.kj
 bS:Binds K t.kj ["told"] []
 mS:mg "is_step" = a_ (.ref t.fS)
 KY:aU K "step_of" "step_of" HU t.fO t.lD
 bO:Binds K t.lD ["told"] []
 mO:mg "step_of" = a_ (.ref t.fO)
 init:DC K mg t.afE t.fI t.jt
 afk:mg "Put" = a_ (.ref t.AK)
 afl:mg "Add" = a_ (.ref t.AL)
 rW:fq K t.jn
 afj:cV K t.jn "parts"
 Dw:cV K t.jn "name"
 RP:cV K t.jn "reg"
 mkSet:Mk K t.jn t.Ki
 RS:mg "Set" = a_ (.ref t.jn)
 afA:aU K "__init__" "Set.__init__" Ds t.Ki t.Dy
 afG:Binds K t.Dy zLe []
 rP:fq K t.jB
 adB:cV K t.jB "parts"
 Rb:cV K t.jB "reg"
 Dj:cV K t.jB "name"
 adE:Mk K t.jB t.JK
 Rf:mg "Look" = a_ (.ref t.jB)
 adY:aU K "__init__" "Look.__init__" Dd t.JK t.Dn
 aee:Binds K t.Dn zLe []
 adF:mg "Swap" = a_ (.ref t.AB)
 tQ:fq K t.i3
 adA:cV K t.i3 "parts"
 Ra:cV K t.i3 "reg"
 Ja:cV K t.i3 "place"
 adD:Mk K t.i3 t.JJ
 Jb:mg "Skip" = a_ (.ref t.i3)
 adX:aU K "__init__" "Skip.__init__" C9 t.JJ t.Dm
 aed:Binds K t.Dm zLe []
def jE(t:aZ)(x:Str):Addr:=if x = "set" then t.jn else if x = "look" then t.jB else t.i3
def jk(v:V)(x:Str)(ps:List V):List (Str×V):=
 if x = "set" then aQ "reg" (ps.getD 1 .aH) (aQ "name" (ps.getD 0 .aH) (aQ "parts" v []))
 else if x = "look" then aQ "name" (ps.getD 1 .aH) (aQ "reg" (ps.getD 0 .aH) (aQ "parts" v []))
 else aQ "place" (ps.getD 1 .aH) (aQ "reg" (ps.getD 0 .aH) (aQ "parts" v []))
def Hd(t:aZ):Sp:=λvs H Q _=>∃a s sz,vs=[.ref a]/\H a=a_ (.tup (tv s))/\gf sz s/\
 ∀z dx H',ah H H'->H z=b_->H' z=a_ (.ins (jE t s.1) dx (jk (.ref a) s.1 (s.2.map λ(n:Nat)=>V.int (n:Int))))->Q (.ref z) H'
theorem O7:bf ["told","word"] ["told"] (aR HU):=bz
theorem acn(s:ah H H1)(nx:H1 x=b_)(jL:H1 dx=b_)(ne:dx≠x):ah H (upd (upd H1 dx (.own x)) x (.ins C dx [])):=aE (aE s jL) (by rw[ag ne.symm];exact nx)
theorem Ov{t:aZ}(T:tR K mg t):ax P w K mg base ay 4 t.fO t.lD ["told"] (Hd t):=by
 have GS:ax P w K mg base ay 2 t.fS t.kj ["told"] OX:=Za T.Uj T.bl T.cn T.KW T.bW T.mW T.fnB T.bB T.mB;have aiw:ax P w K mg base ay 2 t.Ki t.Dy zLe (yI t.jn "name" "reg"):=ab8 T.afA T.init T.rW T.afj T.Dw T.RP;have agC:ax P w K mg base ay 2 t.JK t.Dn zLe (yI t.jB "reg" "name"):=aax T.adY T.init T.rP T.adB T.Rb T.Dj;have agB:ax P w K mg base ay 2 t.JJ t.Dm zLe (yI t.i3 "reg" "place"):=aau T.adX T.init T.tQ T.adA T.Ra T.Ja;refine T.KY.ok O7 λaL A _ s H vs Q E hr h=>?_
 ·obtain⟨a,st,sz,aa,ha,g,k⟩:=h;subst aa
  refine let R7:TS:=_;let R8:TS:=_;let R9:TS:=_;let fu:TS:=_;let nY:TS:=_;let xx:TS:=_;let BN:TS:=_;let Mw:TS:=_;⟨_,(ar (bZ (jW (gd (cU GS (hr.mono qc) rfl T.mS T.Uj.kp T.bS .nil aT (ab (pv 0) af)))) gV cp)
   (pR Mw (ar (bp (i:=1) O7.nd rfl (aF rfl) (aJ cq (pv 0) aq)) (pR BN (ar (bZ (bo cH (pv 1) cJ (a7 _)) gV cp) (pR xx (ar (bZ (bo cH (pv 1) cJ (a7 _)) gV cp) (pR nY (ar (bZ (bo cH (pv 1) cJ (a7 _)) (aG (bg (Ak T.mkSet aiw hr rfl T.RS T.afG .nil aT (ab (pv 0) af)))) cp) (pR fu (ar (bZ (bo cH (pv 1) cJ (a7 _)) (aG (bg (Ak T.adE agC hr rfl T.Rf T.aee .nil aT (ab (pv 0) af)))) cp) (pR R9 (ar (bZ (bo cH (pv 1) cJ (a7 _)) gV cp) (pR R8 (ar (bZ (bo cH (pv 1) cJ (a7 _)) gV cp) (pR R7 (aG (bg (Ak T.adD agB hr rfl T.Jb T.aed .nil aT (ab (pv 0) af)))))))))))))))))))),?_⟩
  refine vr rfl ⟨a,st,sz,rfl,ha,g,λH1 hS=>aA _ rfl (dJ ?_)⟩
  have mk:∀{C x dx:e_} {fs:List (Str×V)},H1 x=b_->H1 dx=b_->dx≠x->fs=jk (.ref a) st.1 (st.2.map λ(n:Nat)=>V.int (n:Int))->C=jE t st.1->upd (upd H1 dx (.own x)) x (.ins C dx []) a=a_ (.tup (tv st))/\Q (.ref x) (upd (upd (upd H1 dx (.own x)) x (.ins C dx [])) x (.ins C dx fs)):=λ{C x dx fs} nx jL ne ef eC=>by
   have sa:=acn (C:=C) hS nx jL ne;refine⟨sa _ _ ha,k x dx _ (λb o e=>by rw[ag (cG e (hS.free nx))];exact sa b o e) (hS.free nx) ?_⟩;rw[ao,ef,eC]
  cases g with
  | set n r h1 h2=>exact gj (v:=.str "set") (j:=0) rfl (hS _ _ ha) rfl (aA _ rfl ⟨rfl,_,rfl,iZ ⟨_,rfl,rfl,_,rfl,iZ ⟨_,rfl,rfl,_,rfl,Az (vr rfl λx dx nx jL ne=>⟨x,dx,a,_,_,_,rfl,ao,(mk nx jL ne rfl rfl).1,rfl,rfl,rfl,(mk nx jL ne (by kernel_rfl) (by kernel_rfl)).2⟩)⟩⟩⟩)
  | look r n h1 h2=>exact gj (v:=.str "look") (j:=0) rfl (hS _ _ ha) rfl (aA _ rfl ⟨rfl,_,rfl,iZ ⟨_,rfl,rfl,_,rfl,iZ ⟨_,rfl,rfl,_,rfl,iZ ⟨_,rfl,rfl,_,rfl,Az (vr rfl λx dx nx jL ne=>⟨x,dx,a,_,_,_,rfl,ao,(mk nx jL ne rfl rfl).1,rfl,rfl,rfl,(mk nx jL ne (by kernel_rfl) (by kernel_rfl)).2⟩)⟩⟩⟩⟩)
  | skip r q h1 h2 h3=>exact gj (v:=.str "skip") (j:=0) rfl (hS _ _ ha) rfl (aA _ rfl ⟨rfl,_,rfl,iZ ⟨_,rfl,rfl,_,rfl,iZ ⟨_,rfl,rfl,_,rfl,iZ ⟨_,rfl,rfl,_,rfl,iZ ⟨_,rfl,rfl,_,rfl,iZ ⟨_,rfl,rfl,_,rfl,iZ (vr rfl λx dx nx jL ne=>⟨x,dx,a,_,_,_,rfl,ao,(mk nx jL ne rfl rfl).1,rfl,rfl,rfl,(mk nx jL ne (by kernel_rfl) (by kernel_rfl)).2⟩)⟩⟩⟩⟩⟩⟩)
end
end TL
namespace L2
section
variable{X:Cx}
theorem len_K(K:u_)(h:X.K=K:=by rfl):jC X (.builtin "len") (λxs H Q=>∃p ys,xs=[.ref p]/\(ae K H p ys\/aB K H p ys)/\Q (.int ys.length) H):=by subst h;exact dP
theorem Ay(K:u_)(h:X.K=K:=by rfl):A2 X (yu K):=by subst h;exact cD
theorem vX(K:u_)(h:X.K=K:=by rfl):A2 X (AI K):=by subst h;exact cq
theorem afB(K:u_)(he:PE X e ta)(hb:zL e f X.env (eval e X.env)=eval e X.env)(h:X.K=K:=by rfl):PE X (.Attribute e f pos) (J1 K ta f):=by subst h;exact cc he hb
end
end L2
namespace L2
open PySem.SeqAt
mutual
def noDict:PyData->Bool
 | .dict _=>d_
 | .list xs=>tG xs
 | .tuple xs=>tG xs
 | _=>c_
def tG:List PyData->Bool
 | []=>c_
 | x::xs=>noDict x&&tG xs
end
mutual
theorem YC:∀d:PyData,noDict d=c_->noMix d d=c_/\same d d=c_
 | .none,_=>⟨rfl,rfl⟩
 | .bool b,_=>⟨rfl,by simp[same]⟩
 | .int i,_=>⟨rfl,by simp[same]⟩
 | .str x,_=>⟨rfl,by simp[same]⟩
 | .list xs,h=>by
  rw[noMix,same];exact FT xs (by rw[noDict]at h;exact h)
 | .tuple xs,h=>by
  rw[noMix,same];exact FT xs (by rw[noDict]at h;exact h)
 | .dict _,h=>by rw[noDict]at h;cases h
theorem FT:∀xs:List PyData,tG xs=c_->Ac xs xs=c_/\sameAll xs xs=c_
 | [],_=>⟨by rw[Ac],by rw[sameAll]⟩
 | x::xs,h=>by
  rw[tG,nj]at h;refine oA (YC x h.1) λa b=>oA (FT xs h.2) λc d=>?_;rw[Ac,sameAll,a,b,c,d];exact⟨rfl,rfl⟩
end
mutual
theorem XW:∀d:PyData,d.canLay0=c_->noDict d=c_
 | .none,_=>rfl
 | .bool b,_=>rfl
 | .int i,_=>rfl
 | .str x,_=>rfl
 | .list xs,h=>by rw[noDict];exact FC xs (by rw[zI]at h;exact h)
 | .tuple xs,h=>by rw[noDict];exact FC xs (by rw[zI]at h;exact h)
 | .dict _,h=>by rw[zI]at h;cases h
theorem FC:∀xs:List PyData,zE xs=c_->tG xs=c_
 | [],_=>by rw[tG]
 | x::xs,h=>by
  rw[zE,nj]at h;rw[tG,XW x h.1,FC xs h.2];rfl
end
theorem Gi{α:Type}{f:α->PyData}:∀{l:List α},(∀a∈l,(f a).canLay0=c_)->zE (l.map f)=c_
 | [],_=>by simp[zE]
 | a::l,h=>by
  rw[List.map_cons,zE,h a List.mem_cons_self,Gi λb hb=>h b (List.mem_cons_of_mem _ hb)];rfl
theorem GG{α:Type}{f:α->PyData}{k:Nat}:∀{l:List α},(∀a∈l,(f a).depth<=k)->FH (l.map f)<=k
 | [],_=>by simp[FH]
 | a::l,h=>by
  have h1:=h a List.mem_cons_self;have h2:=GG λb hb=>h b (List.mem_cons_of_mem _ hb);simp only[List.map_cons,FH];lia
theorem Yp{α:Type}{f:α->PyData}{l:List α}(h1:∀a∈l,(f a).canLay0=c_)(h2:∀a∈l,(f a).depth<=60):shaped (.list (l.map f))=true:=by
 have d:=GG h2;unfold shaped;rw[nj];refine⟨by simp only[zI];exact Gi h1,decide_eq_true ?_⟩;simp only[F9];exact wb
theorem OG{α:Type}{K:u_}{F:V->α->Prop}{f:α->PyData}(h:∀v a,F v a->i6 K H v (f a)):∀{vs:List V} {l:List α},Paired F vs l->kg K H vs (l.map f)
 | _,_,.nil=>.nil
 | _,_,.cons g t=>.cons (h _ _ g) (OG h t)
def wC(h:j_)(dx:PyData)(u:f_):Bool:=@decide (∃d as,Reads h u d as/\rA d dx=c_) (MG _)
theorem Rp(r:Reads h u d as):wC h dx u=rA d dx:=by
 unfold wC;cases e:rA d dx with
 | true=>exact @decide_eq_true _ (MG _) ⟨d,as,r,e⟩
 | false=>
  refine @decide_eq_false _ (MG _) ?_;rintro⟨d',as',r',e'⟩;refine oA (r.unique d' as' r') λq _=>?_;rw[q,e']at e;cases e
theorem Qx:∀{us:List f_} {ds:List PyData} {as:List e_},ReadsAll h us ds as->us.any (wC h dx)=ds.any λd=>rA d dx
 | _,_,_,.nil=>rfl
 | _,_,_,.cons r t=>by rw[List.any_cons,List.any_cons,Rp r,Qx t]
theorem Qg{A:h_}{s:g_}{v:f_}{dx:PyData}{bs:List e_}(rx:Reads s.heap v dx bs)(sx:shaped dx=c_)(hu:A.in1.units+64<cLine):∀{us:List f_} {ds:List PyData} {as:List e_},ReadsAll s.heap us ds as->(∀d∈ds,shaped d=c_)->∀u∈us,EqAt A.in1 s u v (wC s.heap dx u)
 | _,_,_,.nil,_=>λu hu=>by cases hu
 | _,_,_,.cons r t,h=>λu hm=>by
  rcases List.mem_cons.mp hm with rfl | hm
  ·rw[Rp r];exact W.keq_at r rx (h _ (by simp)) sx hu
  ·exact Qg rx sx hu t (λd hd=>h d (List.mem_cons_of_mem _ hd)) u hm
def agU(K:u_)(neg:Bool):R2:=λx y H Q=>∃p xs ds dx,y=.ref p/\ae K H p xs/\kg K H xs ds/\i6 K H x dx/\shaped dx=c_/\(∀d∈ds,shaped d=c_)/\Q (.bl (if neg=c_ then !(ds.any λd=>rA d dx) else ds.any λd=>rA d dx)) H
section
variable{X:Cx}
theorem Y'(hu:X.A.units+65<cLine):dD X (fw .NotIn) (agU X.K c_):=by
 intro p_ s σ H x y v u Q I rx ry h;obtain⟨p,xs,ds,dx,aa,hq,hd,hx,sx,sd,q⟩:=h;subst aa;cases ry;refine aO (I.list hq) λits r pl hz=>oE (hd.reads I r) λas q1=>oE (hx.reads I rx) λbs q2=>notIn_listAt (wC s.heap dx) pl.isList (λw hw=>Qg q2 sx (by show X.A.units+1+64<cLine;exact w0) q1 sd w (by simpa using hw)) ⟨.bl _,H,I,rfl,?_⟩;rw[show its.toArray.any (wC s.heap dx)=its.any (wC s.heap dx) by simp,Qx q1];exact q
end
theorem Hu{X:Cx}(hu:X.A.units+64<cLine):dD X (fw .NotEq) (λx y H Q=>∃a b xs,x=.ref a/\y=.ref b/\H a=a_ (.lst xs)/\H b=a_ (.lst [])/\Q (.bl (!decide (xs=[]))) H):=by
 intro p_ s σ H x y v u Q I rx ry h;obtain⟨a,b,xs,rfl,rfl,ha,hb,q⟩:=h
 by_cases e:xs=[]
 ·subst e;refine QY hu p_ s σ H _ _ v u Q I rx ry ⟨.list [],.list [],.lst (ae.of ha) .nil,.lst (ae.of hb) .nil,qc,qc,by simp[noMix,Ac],?_⟩;have e1:same (.list []) (.list [])=true:=by simp[same,sameAll]
  rw[if_pos rfl,e1];exact q
 ·cases rx;cases ry;obtain⟨z,its,n,r,hl,e1⟩:=I.mm ha;obtain⟨z2,sh,n2,r2,jc,e2⟩:=I.mm hb;rw[decide_eq_false e]at q;have hz:=List.length_eq_zero_iff.mp (by rw[<-jc];rfl);subst hz
  have hs:(its.toArray.size != ([]:List f_).toArray.size)=true:=by
   rw[bne_iff_ne,List.size_toArray,<-hl];intro h0;exact e (List.length_eq_zero_iff.mp h0)
  show wpAny _ _ (richCompare .NotEq (.ref a) (.ref b)) _ _ s;exact W' ⟨_,e1,rfl⟩ ⟨_,e2,rfl⟩ F.slot_list_ne F.entry_list_ne (F.args_list_ne_2 _ _) (list_ne_lengthsAt a b _ _ _ _ _ _ _ _ hs) ⟨e1,e2,(by intro z;cases z),⟨.bl c_,H,I,rfl,q⟩⟩ om
theorem Pb{X:Cx}(hu:X.A.units+64<cLine):dD X (fw .Eq) (λx y H Q=>∃a b xs,x=.ref a/\y=.ref b/\H a=a_ (.lst xs)/\H b=a_ (.lst [])/\Q (.bl (decide (xs=[]))) H):=by
 intro p_ s σ H x y v u Q I rx ry h;obtain⟨a,b,xs,rfl,rfl,ha,hb,q⟩:=h
 by_cases e:xs=[]
 ·subst e;refine QZ hu p_ s σ H _ _ v u Q I rx ry ⟨.list [],.list [],.lst (ae.of ha) .nil,.lst (ae.of hb) .nil,qc,qc,by simp[noMix,Ac],?_⟩;have e1:same (.list []) (.list [])=true:=by simp[same,sameAll]
  rw[if_neg dO,e1];exact q
 ·cases rx;cases ry;obtain⟨z,its,n,r,hl,e1⟩:=I.mm ha;obtain⟨z2,sh,n2,r2,jc,e2⟩:=I.mm hb;rw[decide_eq_false e]at q;have hz:=List.length_eq_zero_iff.mp (by rw[<-jc];rfl);subst hz
  have hs:(its.toArray.size != ([]:List f_).toArray.size)=true:=by
   rw[bne_iff_ne,List.size_toArray,<-hl];intro h0;exact e (List.length_eq_zero_iff.mp h0)
  show wpAny _ _ (richCompare .Eq (.ref a) (.ref b)) _ _ s;exact W' ⟨_,e1,rfl⟩ ⟨_,e2,rfl⟩ F.slot_list_eq F.entry_list_eq (F.args_list_eq_2 _ _) (list_eq_lengthsAt a b _ _ _ _ _ _ _ _ hs) ⟨e1,e2,(by intro z;cases z),⟨.bl d_,H,I,rfl,q⟩⟩ om
end L2
namespace L2
open PySem.W L3
section
variable{X:Cx}{pz:List (e_×Obj)}{σ:St}{H:Hp}{s:g_}{ns:List Int}{kf:Int->Int}{l it sx f:e_}{R:Result->g_->Prop}
def aei(kf:Int->Int)(ns:List Int)(sx:e_)(j:Nat)(h:j_):Prop:=(j=0/\∃c,h.get? sx=a_ (seqObj "list" #[] c))\/
 (0<j/\∃nb vb tb c,h.get? sx=a_ (seqObj "list" #[vb,.int (kf nb) tb] c)/\RelV (.int nb) vb/\nb∈ns/\∀i n,i<j->ns[i]?=a_ n->kf nb<=kf n)
theorem aef(rv:Vals (ns.map V.int) vs){j:Nat}(e:vs[j]?=a_ v):∃n t,ns[j]?=a_ n/\v=.int n t:=by
 have hl:=rv.length;rw[List.length_map]at hl;have hj:j<vs.length:=(List.getElem?_eq_some_iff.mp e).1;obtain⟨u,e',t,ru⟩:=rv.get (i:=j) (x:=.int ns[j]) (by simp[show j<ns.length by exact wg]);rw[e]at e';cases e';exact⟨ns[j],t,List.getElem?_eq_getElem (by exact wg),ru⟩
theorem aaI(hh:X.A.handled=b_)(hl:ae X.K H l (ns.map V.int))(h0:0<ns.length)(xj:l≠it)
  (turn:∀(n:Int) (u:f_) (pp:List (e_×Obj)) (s:g_),n∈ns->RelV (.int n) u->(∀p∈pz,p∈pp)->Inv X pp σ H s->wpAny (model X.prog X.w) X.A.in1 (call (.ref f) [u]) (EP X pp σ λv H'=>v=.int (kf n)/\H'=H) (λ_ _=>False) s)
  (hR:∀nb vb s',Inv X pz σ H s'->RelV (.int nb) vb->nb∈ns->(∀n∈ns,kf nb<=kf n)->R (.ok (.ret vb)) s') :
  ∀(r j:Nat) (s:g_),ns.length-j=r->j<=ns.length->Inv X pz σ H s->ip X pz H sx->ip X pz H it->sx≠it->s.heap.IsListIter it l j->aei kf ns sx j s.heap->
   codeAny (model X.prog X.w) X.A (.builtin "min.loop" ⟨[.ref it,.ref f,.ref sx],[]⟩) R s:=by
 have AF:(toString "min" ++ toString ".loop" : String) = "min.loop":=qc;intro r
 induction r with
 | zero=>
  intro j s hr hj I fs fi wL hit hb;have ej:j=ns.length:=li;rcases hb with ⟨z,_⟩ | ⟨_,nb,vb,tb,c,eS,rb,mb,best⟩
  ·lia
  ·obtain⟨vs,rv,pl,hz⟩:=I.list hl;have lv:=rv.length;rw[List.length_map]at lv;have W:=Ca (prog:=X.prog) (w:=X.w) (A:=X.A.in1) hh it l xj vs.toArray;refine(qY PySem.F.entry_min_loop (?_:wpAny _ _ _ _ _ s));rw[(tf PySem.F.plain_min_loop _)];show wpAny _ X.A.in1 (GZ (.ref sx) >>= _) _ _ _;refine aj (pP eS rfl (?_:wpAny _ X.A.in1 (tryCatch (pyNext (.ref it)) _ >>= _) _ _ _));refine aj (BY (W.done _ _ _ ⟨by rw[List.size_toArray,<-lv,<-ej];exact hit,pl.isList⟩ λh' qG uX=>?_));have k1:∀b o,b≠it->s.heap.get? b=a_ o->h'.get? b=a_ o:=λb o n e=>uX b o (by simpa using n) e;have I1:Inv X pz σ H { s with heap:=h',toks:=qG }:=I.turned k1 fi.1 fi.2.1 fi.2.2.2.1 fi.2.2.2.2.1 fi.2.2.2.2.2;have e1:=k1 sx _ wL eS;show wpAny _ X.A.in1 (updateSeq sx (λ_=>#[]) >>= _) _ _ _;refine aj (M' e1 rfl (aj (xK (aM ?_))));have sb:=zB h' sx (kM λ_=>(#[]:Array f_));refine hR nb vb _ (I1.turned (h':=_) (t':=qG) (it:=sx) (λb o n e=>(sb.2 b n).trans e) fs.1 fs.2.1 fs.2.2.2.1 fs.2.2.2.2.1 fs.2.2.2.2.2) rb mb λn hn=>?_;obtain⟨i,hi,e⟩:=List.getElem_of_mem hn;exact best i n (by exact wg) (by rw[<-e];exact List.getElem?_eq_getElem hi)
 | succ r ih=>
  intro j s hr hj I fs fi wL hit hb;have lt:j<ns.length:=li;obtain⟨vs,rv,pl,hz⟩:=I.list hl;have lv:=rv.length;rw[List.length_map]at lv;have W:=Ca (prog:=X.prog) (w:=X.w) (A:=X.A.in1) hh it l xj vs.toArray
  have hS:∃xs c,s.heap.get? sx=a_ (seqObj "list" xs c)/\((j=0/\xs=#[])\/(0<j/\∃nb vb tb,xs=#[vb,.int (kf nb) tb]/\RelV (.int nb) vb/\nb∈ns/\∀i n,i<j->ns[i]?=a_ n->kf nb<=kf n)):=by
   rcases hb with ⟨z,c,e⟩ | ⟨z,nb,vb,tb,c,e,q⟩
   ·exact⟨_,c,e,.inl ⟨z,rfl⟩⟩
   ·exact⟨_,c,e,.inr ⟨z,nb,vb,tb,rfl,q⟩⟩
  obtain⟨xs,c,eS,hx⟩:=hS;refine(qY PySem.F.entry_min_loop (?_:wpAny _ _ _ _ _ s));rw[(tf PySem.F.plain_min_loop _)];show wpAny _ X.A.in1 (GZ (.ref sx) >>= _) _ _ _;refine aj (pP eS rfl (?_:wpAny _ X.A.in1 (tryCatch (pyNext (.ref it)) _ >>= _) _ _ _));refine aj (BY (W.item j _ _ _ (by rw[List.size_toArray];exact wf) ⟨hit,pl.isList⟩ λv h' qG hP ahB uX=>?_));have hv:vs[j]?=a_ v:=by simpa using hP
  obtain⟨n,t,en,rfl⟩:=aef rv hv;have mn:=List.mem_of_getElem? en;have k1:∀b o,b≠it->s.heap.get? b=a_ o->h'.get? b=a_ o:=λb o z e=>uX b o (by simpa using z) e;have I1:Inv X pz σ H { s with heap:=h',toks:=qG }:=I.turned k1 fi.1 fi.2.1 fi.2.2.2.1 fi.2.2.2.2.1 fi.2.2.2.2.2;have e1:=k1 sx _ wL eS;obtain⟨oI,hoI,xg,LL⟩:=id ahB.1
  have P1:Inv X ((pz++[(sx,seqObj "list" xs c)])++[(it,oI)]) σ H { s with heap:=h',toks:=qG }:=by
   have a:=I1.DI fs e1 (λv z=>by cases z);refine a.DI ⟨fi.1,fi.2.1,fi.2.2.1,fi.2.2.2.1,fi.2.2.2.2.1,λp hp=>?_⟩ hoI (λv z=>by rw[LL]at z;cases z);rcases List.mem_append.mp hp with z | z
   ·exact fi.2.2.2.2.2 p (List.mem_append_left _ z)
   ·rcases List.mem_append.mp z with z | z
    ·exact fi.2.2.2.2.2 p (List.mem_append_right _ z)
    ·have z':p=(sx,seqObj "list" xs c):=by simpa using z
     rw[z'];exact wL
  show wpAny _ X.A.in1 (tryCatch (holding [eX n t] (call (.ref f) [eX n t])) _ >>= _) _ _ _;refine aj (BY (jw (gG (turn n _ _ _ mn ⟨t,rfl⟩ (λp hp=>List.mem_append_left _ (List.mem_append_left _ hp)) P1) (λw s2 hw=>?_) λ_ _ z=>z.elim)));obtain⟨v2,H2,J,r2,rfl,rfl⟩:=hw;obtain⟨t2,rfl⟩:=r2;have I2:=J.tK λp hp=>J.pin p (List.mem_append_right _ (List.mem_append_left _ (List.mem_append_left _ hp)));have e2:=(J.pin (sx,seqObj "list" xs c) (List.mem_append_right _ (List.mem_append_left _ (List.mem_append_right _ (by simp))))).1;have i2:=(J.pin (it,oI) (List.mem_append_right _ (List.mem_append_right _ (by simp)))).1
  have wr:∀(tk:Nat),(∀i m,i<j->ns[i]?=a_ m->kf n<=kf m)->codeAny (model X.prog X.w) X.A (.builtin "min.loop" ⟨[.ref it,.ref f,.ref sx],[]⟩) R { s2 with heap:=s2.heap.update sx (kM λ_=>#[.int n t,.int (kf n) t2]),toks:=tk }:=λtk agt=>by
   have sb:=zB s2.heap sx (kM λ_=>#[eX n t,eX (kf n) t2]);have I3:Inv X pz σ H2 { s2 with heap:=s2.heap.update sx (kM λ_=>#[.int n t,.int (kf n) t2]),toks:=tk }:=I2.turned (it:=sx) (λb o z e=>(sb.2 b z).trans e) fs.1 fs.2.1 fs.2.2.2.1 fs.2.2.2.2.1 fs.2.2.2.2.2;refine ih (j+1) _ om (by exact xf) I3 fs fi wL ⟨oI,(sb.2 it (cB wL)).trans i2,xg,LL⟩ (.inr ⟨Ny _,n,_,t2,_,BW e2 λ_=>#[.int n t,.int (kf n) t2],⟨t,rfl⟩,mn,λi m hi em=>?_⟩)
   by_cases z:i=j
   ·subst z;rw[en]at em;cases em;exact zP _
   ·exact agt i m li em
  rcases hx with ⟨z,rfl⟩ | ⟨z,nb,vb,tb,rfl,rb,mb,best⟩
  ·show wpAny _ X.A.in1 (updateSeq sx (λ_=>#[.int n t,.int (kf n) t2]) >>= _) _ _ _;refine aj (M' e2 rfl ?_);rw[AF];exact aM ⟨qZ PySem.F.plain_min_loop _,wr s2.toks λi m hi _=>absurd hi li⟩
  ·show wpAny _ X.A.in1 (tryCatch (holding [.int n t,.int (kf n) t2] (richCompare .Lt (.int (kf n) t2) (.int (kf nb) tb) >>= _)) _ >>= _) _ _ _;refine aj (BY (jw (aj (lt_int (?_:wpAny _ _ _ _ _ _)))));refine aj (jw (ni (aj (xK (aM ?_)))))
   by_cases bG:kf n<kf nb
   ·simp only[bG,decide_true,if_true];refine aj (M' e2 rfl (aj (xK ?_)));rw[AF];refine aM ⟨qZ PySem.F.plain_min_loop _,wr s2.toks λi m hi em=>?_⟩;have:=best i m hi em;lia
   ·simp only[bG,decide_false,Fw,if_false];refine aj (xK ?_);rw[AF];refine aM ⟨qZ PySem.F.plain_min_loop _,ih (j+1) _ li (by exact xf) I2 fs fi wL ⟨oI,i2,xg,LL⟩ (.inr ⟨Ny _,nb,vb,tb,c,e2,rb,mb,λi m hi em=>?_⟩)⟩
    by_cases z2:i=j
    ·subst z2;rw[en]at em;cases em;lia
    ·exact best i m li em
end
section
variable{X:Cx}{p_:List (e_×Obj)}{σ:St}{H:Hp}{s:g_}{ns:List Int}{kf:Int->Int}{l f:e_}
theorem aaJ(I:Inv X pz σ H s)(hh:X.A.handled=b_)(hl:ae X.K H l (ns.map V.int))(h0:0<ns.length)
  (turn:∀(n:Int) (u:f_) (pp:List (e_×Obj)) (s:g_),n∈ns->RelV (.int n) u->(∀p∈pz,p∈pp)->Inv X pp σ H s->wpAny (model X.prog X.w) X.A.in1 (call (.ref f) [u]) (EP X pp σ λv H'=>v=.int (kf n)/\H'=H) (λ_ _=>False) s)
  (q:∀m∈ns,(∀n∈ns,kf m<=kf n)->Q (.int m) H):wpAny (model X.prog X.w) X.A (call (.builtin "min") [.ref l] [(q9 "key",.ref f)]) (EP X pz σ Q) E s:=by
 have AF:(toString "min" ++ toString ".loop" : String) = "min.loop":=qc;obtain⟨vs,rv,pl,hz⟩:=I.list hl
 have Bp:l<s.heap.objs.size:=by
  obtain⟨o,e,_⟩:=pl.isList;exact bq e
 refine kmk_tree PySem.F.kind_min PySem.F.plain_min PySem.F.entry_min (kmk_min_key _ _) (?_:wpAny _ X.A.in1 (WV "min" ["key","default"] 0 ⟨[],[(q9 "key",.ref f)]⟩ >>= _) _ _ s);refine aj (Ga (rfl:WV "min" ["key","default"] 0 ⟨[],[(q9 "key",.ref f)]⟩=pure [a_ (.ref f),b_]) (aj (aM (aj (xC pl.isList (aj (FX ?_ (aP _))))))));rw[AF];have z1:(s.heap.push { cls:=.type "list_iterator",data:=.fields #[.ref l,.int 0 0] }).objs.size=s.heap.objs.size+1:=lO _ _;have hI:=I.aD.fresh (aw _);have hS:H (s.heap.push { cls:=.type "list_iterator",data:=.fields #[.ref l,.int 0 0] }).objs.size=none:=I.aD.fresh (by rw[z1];exact kJ _);refine aM ⟨qZ PySem.F.plain_min_loop _,?_⟩;have I1:Inv X pz σ H { s with heap:=(s.heap.push { cls:=.type "list_iterator",data:=.fields #[.ref l,.int 0 0] }).push (seqObj "list" #[] 0) }:=I.kept (t':=s.toks) λb o e=>aY _ (aY _ e)
 refine aaI (kf:=kf) (pz:=pz) (σ:=σ) hh hl h0 (cI Bp) turn (λnb vb s' J rb mb best=>?_) (ns.length-0) 0 _ rfl (aP _) I1 (I.iM (by rw[z1];exact kJ _) hS) (I.iM (aw _) hI) (by rw[z1];exact FD _)
  ⟨_,aY _ (dw _ rfl),rfl,rfl⟩ (.inl ⟨rfl,0,dw _ rfl⟩)
 exact⟨.int nb,H,J,rb,q nb mb best⟩
def SA(B:V->Hp->Prop):List V->Hp->Prop:=λvs H=>match vs with | [x]=>B x H | _=>False
theorem ab2{B:V->Hp->Prop}:∀{vs:List V} {H:Hp},SA B vs H->∃x,vs=[x]/\B x H
 | [x],_,h=>⟨x,rfl,h⟩
 | [],_,h=>h.elim
 | _::_::_,_,h=>h.elim
def abu(K:u_)(P:e_)(yA:Pos)(qual:Str)(tl te:TE)(idx:List Nat)(n k:Nat):TE:=λσ H Q=>tl σ H λx H1=>∃(a:e_) (ns:List Int) (kf:Int->Int),x=.ref a/\ae K H1 a (ns.map V.int)/\0<ns.length/\cY P yA qual H1/\
 ∀H2,t7 P H1 H2->cY P yA qual H2->ae K H2 a (ns.map V.int)/\(∀m∈ns,te ((jF idx n σ).set k (a_ (.int m))) H2 λv H'=>v=.int (kf m)/\H'=H2)/\∀m∈ns,(∀n∈ns,kf m<=kf n)->Q (.int m) H2
theorem Y9{sc:i_}{idx:List Nat}{k:Nat}{params:Arguments}{le body:Expr}{c P:e_}(hc:X.calm=c_)(VE:X.A.depth+5<BZ)(hg:Gl X "min")(hm:X.mg "min" = b_)(hl:PE X le tl)(S:cZ X sc N idx)
  (DE:X.env.code=.ref c) (C:CodeHd X.base c P) (B:se X.mg X.base) (hk:N[k]?=a_ px) (kx:sc.names.lookup px=a_ .local) (hi:idx.length<=k) (hb:∀A qual f cd s H,PE (Ei X A sc N qual f cd s H) body te)
  (AG:∀(qual:Str) (cl:List (Str×e_)) (pm cd nX u:f_),rE (kla_fn "<lambda>" qual params body sc cl pm cd nX) ⟨[u],[]⟩=pure [(px,u)]) (Kz:defaultsOf params X.env=([],[]):=by rfl) (xn:sc.isCoroutine=false:=by rfl) (Ky:sc.isGenerator=false:=by rfl)
  (he:backTo pos (cA [le] X.env)=(d_,eval le X.env)::backTo pos (cA [] X.env):=by rfl) (eL:(backTo pos (cA [le] X.env)).any (·.1)=false:=by rfl) (hs:cA [le] X.env=(d_,eval le X.env)::cA [] X.env:=by rfl) :
  PE X (.Call (.Name "min" p) [le] [⟨a_ "key",.Lambda params body sc yA,ai7⟩] pos) (abu X.K P yA (X.env.qual ++ "<lambda>") tl te idx N.length k):=by
 intro p_ s σ H Q I h;refine tj (oH I hg hm (show q8 "min" = a_ (.builtin "min") from boot_min) ?_ qc qc)
 refine callWith_kw (aI (ab (X:=X) hl af hs pos p_ s σ H (SA λx H1=>∃(a:e_) (ns:List Int) (kf:Int->Int),x=.ref a/\ae X.K H1 a (ns.map V.int)/\0<ns.length/\cY P yA (X.env.qual ++ "<lambda>") H1/\
  ∀H2,t7 P H1 H2->cY P yA (X.env.qual ++ "<lambda>") H2->ae X.K H2 a (ns.map V.int)/\(∀m∈ns,te ((jF idx N.length σ).set k (a_ (.int m))) H2 λv H'=>v=.int (kf m)/\H'=H2)/\∀m∈ns,(∀n∈ns,kf m<=kf n)->Q (.int m) H2) I h) λus s1 ⟨vs,H1,I1,rv,q1⟩=>?_) he eL rfl rfl
 obtain⟨x,rfl,a,ns,kf,rfl,hL,h0,wx,hq⟩:=ab2 q1;obtain⟨u,rfl,ru⟩:=vals1 rv;cases ru;refine kws_cons (aaQ I1 S DE C B Kz wx λf c' H2 pm nX s2 I2 sm wj Bu=>kws_nil ?_);obtain⟨jQ,hte,hQ⟩:=hq H2 sm wj;have hh:=I.ok.hd hc;refine TX (aaJ (kf:=kf) (f:=f) I2 hh jQ h0 (λn u pp s3 hn ru hp I3=>?_) λm hm hb=>hQ m hm hb) λw s4 v H4 I4 r4 q4=>⟨v,H4,I4.Cq,r4,q4⟩;refine aaR (A:=X.A.in1) (v:=.int n) I3 S I3.ok.frames hh (by show X.A.depth<_;lia) hk kx hi ru (I3.pin _ (List.mem_append_right _ (hp _ (List.mem_append_right _ List.mem_cons_self)))).1 (I3.aD c' _ Bu).1 (AG _ _ _ _ _ _) xn Ky (hb _ _ _ _ _ _) (hte n hn)
end
end L2
namespace L2
open L3
structure uw(K:u_)(x qual:Str)(st:Stmt)(f:e_)(fd:lW)(c:e_):Prop where
 ex:∃(oc:f_) (od:Option e_) (kV doc pm:f_) (an:Option e_) (ct:f_) (iz:Array (Option f_)),fd=B_ x qual (jz st) (iG st) (aR st) .none kV doc pm an (.ref c) ct/\K.lookup f=a_ ⟨oc,od,.func fd,iz⟩/\W.codeIn K (.ref c) qual=c_
 kp:x_ K (.ref f)=c_
theorem acB{K:u_}{st:Stmt}{od an:Option e_}{iz:Array (Option f_)}{kV doc pm ct:f_}(l:K.lookup f=a_ ⟨oc,od,.func (B_ x qual (jz st) (iG st) (aR st) .none kV doc pm an (.ref c) ct),iz⟩)
  (c1:W.codeIn K (.ref c) qual=c_) (k:x_ K (.ref f)=c_):uw K x qual st f (B_ x qual (jz st) (iG st) (aR st) .none kV doc pm an (.ref c) ct) c:=⟨⟨oc,od,kV,doc,pm,an,ct,iz,rfl,l,c1⟩,k⟩
section
variable{P:l_}{w:k_}{K:u_}{mg:Str->Option f_}{base:j_}
theorem uw.ok{st:Stmt}{k:Nat}{sp:Sp}(F:uw K x qual st f fd c)(S:bf N ps (aR st))
  (v5:∀(A:h_) (outer:List Env) (s:g_) (H:Hp) (vs:List V) (Q:VK) (E:XK),eJ k (A.deeper (envOfC qual (aR st) s.heap.objs.size f (.ref c)))->sp vs H Q E->
   ∃t,fg (um ay P w K mg base N qual (aR st) f (.ref c) A outer s H E).uE (iG st) t/\t { nx:=λ_ H'=>Q .aH H',rt:=Q } (start N vs) H) (len:∀vs H Q E,sp vs H Q E->vs.length=ps.length:=by intro _ _ _ _ h;(repeat obtain⟨_,h⟩:=h);subst_vars;rfl):ax P w K mg base ay (k+1) f fd ps sp:=by
 refine fj F.ex λoc od kV doc pm aa=>iY aa λan ct iz aa lk iD=>?_;subst aa;exact vZ lk iD S len λA outer s H vs Q E hr qL=>ai (v5 A outer s H vs Q E hr qL) λt h q=>aA t h.uE q
theorem uw.fun{st:Stmt}(F:uw K x qual st f fd c):aU K x qual st f fd:=by
 exact fj F.ex λoc od kV doc pm aa=>iY aa λan ct iz e lk iD=>⟨⟨oc,od,kV,doc,pm,an,_,ct,iz,e,lk,iD⟩,F.kp⟩
end
end L2
namespace L2
open PySem.W
section
variable{X:Cx}
theorem Yi(M:Model)(h:j_)(i:Int)(t:Tok):Looks M h (typeOf (.int i t)) (.type "int"):=Looks.of_pure rfl
end
def sG(xs:Array Nat):Prop:=xs.toList.Pairwise (· < ·)
theorem Jf{xs:Array Nat}(h:sG xs){i k:Nat}(Bs:i<k)(hk:k<xs.size):xs[i]<xs[k]:=by
 have:=List.pairwise_iff_getElem.mp h i k (by simpa using tw Bs hk) (by simpa using hk) Bs;simpa using this
theorem HI{xs:Array Nat}(h:sG xs)(j:Nat):∀f lo hi,lo<=hi->hi<=xs.size->hi-lo<=f->(∀i (_:i<xs.size),i<lo->xs[i]<j)->(∀i (_:i<xs.size),hi<=i->j<=xs[i])->
  Fx xs j f lo hi<=xs.size/\(∀i (_:i<xs.size),i<Fx xs j f lo hi->xs[i]<j)/\∀i (_:i<xs.size),Fx xs j f lo hi<=i->j<=xs[i]
 | 0,lo,hi,h1,h2,h3,a,b=>by
  have:lo=hi:=li;subst this;exact eT h2 a b
 | f+1,lo,hi,h1,h2,h3,a,b=>by
  unfold Fx
  by_cases bG:lo<hi
  ·rw[if_pos bG];have hm:(lo+hi)/2<hi:=li;have zc:lo<=(lo+hi)/2:=li;have qO:=wh;have eg:xs.getD ((lo+hi)/2) j=xs[(lo+hi)/2]:=by simp[Array.getD,qO]
   dsimp only;rw[eg]
   by_cases hb:xs[(lo+hi)/2]<j
   ·rw[if_pos hb];refine HI h j f _ _ xf h2 om (λi E7 hl=>?_) b
    by_cases z:i=(lo+hi)/2
    ·subst z;exact hb
    ·exact tw (Jf h li qO) hb
   ·rw[if_neg hb];refine HI h j f _ _ zc w3 om a λi E7 hl=>?_
    by_cases z:i=(lo+hi)/2
    ·subst z;omega
    ·have:=Jf h (i:=(lo+hi)/2) (k:=i) li E7;omega
  ·rw[if_neg bG];have:lo=hi:=li;subst this;exact eT h2 a b
theorem YL{xs:Array Nat}(h:sG xs)(j:Nat):jf xs j<=xs.size/\(∀i (_:i<xs.size),i<jf xs j->xs[i]<j)/\∀i (_:i<xs.size),jf xs j<=i->j<=xs[i]:=
 HI h j xs.size 0 xs.size (aP _) (aw _) (aw _) (λ_ _ z=>absurd z (pO _)) λi hi z=>absurd hi (Nat.not_lt.mpr z)
theorem YN{xs:Array Nat}{j:Nat}(h:sG xs)(hn:xs[jf xs j]? ≠ a_ j):sG (cb.insertAt xs (jf xs j) j):=by
 refine dg (YL h j) λh1 h2 h3=>?_;unfold sG;rw[cb.toList_insertAt]
 have ht:∀x∈xs.toList.take (jf xs j),x<j:=λx hx=>by
  refine oE (List.getElem_of_mem hx) λi aa=>oE aa λhi e=>?_;rw[List.length_take,dj]at hi;rw[List.getElem_take,Xh]at e;rw[<-e];exact h2 i li li
 have hd:∀x∈xs.toList.drop (jf xs j),j<x:=λx hx=>by
  refine oE (List.getElem_of_mem hx) λi aa=>oE aa λhi e=>?_;rw[List.length_drop,dj]at hi;rw[List.getElem_drop,Xh]at e;have bG:jf xs j+i<xs.size:=om;have a:=h3 (jf xs j+i) bG li;rw[<-e];rcases Nat.lt_or_ge j xs[jf xs j+i]with z | z
  ·exact z
  ·exfalso;have eq:xs[jf xs j+i]=j:=li
   by_cases i0:i=0
   ·subst i0;exact hn (by rw[W3 om];exact congrArg a_ eq)
   ·have b:=h3 (jf xs j) li (aw _);have c:=Jf h (i:=jf xs j) (k:=jf xs j+i) li bG;omega
 refine List.pairwise_append.mpr (eT (h.sublist (List.take_sublist _ _)) (List.pairwise_cons.mpr ⟨hd,h.sublist (List.drop_sublist _ _)⟩) λx hx y hy=>?_);rcases List.mem_cons.mp hy with z | z
 ·rw[z];exact ht x hx
 ·exact tw (ht x hx) (hd y z)
structure lh(led:Bool)(t:cb):Prop where
 K0:t.dummies=#[]
 led:t.led=led
 asc:t.plain=c_->sG t.place
theorem Y0(led:Bool):lh led (.fresh 0 0 led):=⟨rfl,rfl,λ_=>.nil⟩
theorem B5{led:Bool}{t:cb}(h:lh led t)(n:Nat):lh led (t.standIn n):=⟨rfl,h.led,λz=>by cases z⟩
theorem acR{led:Bool}{t:cb}(h:lh led t)(n:Nat):lh led (t.orStandIn n):=by
 unfold cb.orStandIn
 split
 ·exact h
 ·exact B5 h n
theorem has_none(j:Nat):Nx #[] j=false:=by simp[Nx]
theorem NQ{t:cb}{hash:Nat->Int}{h:Int}(hd:t.dummies=#[])(eA:∀i,(hash i == h)=d_):∀f (p:cb.Probe) j d,p.dummy=b_->Xv t hash h f p=a_ (.empty j d)->d=b_/\t.slot j=.empty
 | 0,p,j,d,_,e=>by cases e
 | f+1,p,j,d,hp,e=>by
  unfold Xv at e;cases q:t.slot p.j with
  | empty=>
   rw[q]at e;simp only[xD,aiL]at e;refine oA e λaa a8=>?_;clear e;subst aa;subst a8;exact⟨hp,q⟩
  | dummy=>
   exfalso;unfold X0 at q;rw[hd,has_none]at q;dsimp only at q
   split at q
   ·cases q
   ·simp at q
  | live i=>
   rw[q]at e;simp only[eA i,Fw,if_false]at e;refine NQ hd eA f _ j d ?_ e;unfold cb.advance
   split
   ·exact hp
   ·exact hp
theorem abr{led:Bool}{t:cb}{j:Nat}(h:lh led t)(hs:t.slot j=.empty):lh led (t.put j).1:=by
 refine⟨?_,h.led,λz=>?_⟩
 ·show (if Nx t.dummies j then _ else t.dummies)=#[];rw[h.K0,has_none];rfl
 ·refine YN (h.asc z) λe=>?_;unfold X0 at hs;dsimp only at hs;rw[if_pos (by rw[e];simp)]at hs;cases hs
theorem Yn{led:Bool}{t:cb}(ht:lh led t)(es:Array (Int×f_))(h:Int)(x:f_):lh led (layNew t es h x).2.1:=by
 unfold layNew
 split
 ·rename_i slot wd e
  refine acR ?_ _;unfold cb.freeSlot at e
  split at e
  ·rename_i j d q
   obtain⟨hd,hs⟩:=NQ ht.K0 (λi=>by simp;lia) _ _ _ _ rfl q;subst hd;simp only[Option.getD_none,Option.isSome_none,xD,F1]at e;refine oA e λaa _=>?_;clear e;subst aa;exact abr ht hs
  ·cases e
 ·exact B5 ht _
theorem abd{mask:Nat}(g:Nat->Option Nat):sG ((((List.range (mask+1)).filterMap λj=>(g j).map (j,·)).map (·.1)).toArray):=by
 unfold sG;rw[List.toList_toArray,List.map_filterMap];refine List.Pairwise.filterMap (R:=(· < ·)) _ (λa b Me x hx y hy=>?_) List.pairwise_lt_range;cases ga:g a with
 | none=>rw[ga]at hx;simp at hx
 | some u=>
  cases gb:g b with
  | none=>rw[gb]at hy;simp at hy
  | some v=>
   rw[ga]at hx;rw[gb]at hy;simp at hx hy;lia
theorem YZ{led:Bool}{t:cb}(ht:lh led t)(es:Array (Int×f_))(wanted:Nat):lh led (Ab t es wanted).2.1:=by
 unfold Ab
 split
 ·rename_i t' order e
  dsimp only
  split
  ·unfold cb.relaid cb.laid at e;cases o:cb.layClean (cb.sizeAbove wanted-1) (es.map (·.1))with
   | none=>rw[o]at e;cases e
   | some owner=>
    rw[o]at e;simp only[Option.bind_eq_bind,Option.bind_some,Option.pure_def,xD,F1]at e;refine oA e λaa _=>?_;clear e;subst aa;exact⟨rfl,ht.led,λ_=>abd _⟩
  ·exact B5 ht _
 ·exact B5 ht _
def Ej(w:k_):Bool:=w.params.followText "set-order"
def qD(P:l_)(w:k_)(e:Int×f_)(k:Int):Prop:=e.1=(intKind P w).hash k/\∃t,e.2=.int k t
def kh(P:l_)(w:k_)(h:j_)(a:e_)(ns:List Int):Prop:=
 ∃o es ep t ks,h.get? a=a_ o/\o.ExactSet/\o.data=.set es ep t/\Paired (qD P w) es.toList ks/\List.Perm ks ns/\ns.Nodup/\t.fits es.size=c_/\lh (!Ej w) t
theorem Nf{α β:Type}{F:α->β->Prop}:∀{l:List α} {r:List β},Paired F l r->l.length=r.length
 | _,_,.nil=>rfl
 | _,_,.cons _ t=>by simp[Nf t]
section
variable{P:l_}{w:k_}{A:h_}{E:f_->g_->Prop}{s:g_}{a:e_}{ns:List Int}
theorem Pp:∀{l:List (Int×f_)} {ks:List Int},Paired (qD P w) l ks->ElemsOf (intKind P w) l
 | _,_,.nil=>λe he=>nomatch he
 | _,_,.cons ⟨h1,t,h2⟩ r=>λe he=>by
  rcases List.mem_cons.mp he with z | z
  ·rw[z];exact⟨⟨_,by rw[h2];exact Gm _ _ _ _,h1⟩,by rw[h2];rfl⟩
  ·exact Pp r e z
theorem afu{k k':Int}{t:Tok}(e:v=.int k' t):(intKind P w).is k v=decide (k=k'):=by
 rw[e];exact KeyKind.is_eq_decide (Gm _ _ _ _) k
theorem O6{k:Int}:∀{l:List (Int×f_)} {ks:List Int},Paired (qD P w) l ks->((l.findIdx? λe=>(intKind P w).is k e.2).isSome=c_↔k∈ks)
 | _,_,.nil=>by simp
 | _,_,.cons (a:=e) (b:=k') ⟨h1,t,h2⟩ r=>by
  have ih:=O6 (k:=k) r;rw[List.findIdx?_cons,afu h2]
  by_cases z:k=k'
  ·subst z;simp
  ·rw[decide_eq_false z,if_neg dO,Fy,ih,List.mem_cons];exact⟨.inr,λh=>h.resolve_left z⟩
theorem NC{l l':List (Int×f_)}(p:List.Perm l' l)(h:Paired (qD P w) l ks):∃Lz,List.Perm Lz ks/\Paired (qD P w) l' Lz:=by
 induction p generalizing ks with
 | nil=>cases h;exact⟨[],.nil,.nil⟩
 | cons x _ ih=>
  cases h with
  | cons hx r=>
   exact ai (ih r) λLz q r'=>aA _ (q.cons _) (.cons hx r')
 | swap x y l=>
  cases h with
  | cons hx r=>
   cases r with
   | cons hy r=>exact⟨_,.swap _ _ _,.cons hy (.cons hx r)⟩
 | trans _ _ LC LB=>
  exact ai (LB h) λk2 q2 r2=>ai (LC r2) λk1 q1 r1=>aA k1 (q1.trans q2) r1
theorem NS{x:Int×f_}{k:Int}(hx:qD P w x k):∀{l:List (Int×f_)} {ks:List Int},Paired (qD P w) l ks->Paired (qD P w) (l++[x]) (ks++[k])
 | _,_,.nil=>.cons hx .nil
 | _,_,.cons h t=>.cons h (NS hx t)
theorem NO{es jR:Array (Int×f_)}{ep:Nat}{t t':cb}(q:s.heap.get? a=a_ o)(x:o.ExactSet)(d:o.data=.set es ep t)(r:Paired (qD P w) jR.toList ks)(p:List.Perm ks ns)(nd:ns.Nodup)(f:t'.fits jR.size=c_)(tb:lh (!Ej w) t') :
  (s.heap.update a (zT jR t')).get? a=a_ { o with data:=.set jR (ep+1) t' }/\kh P w (s.heap.update a (zT jR t')) a ns:=by
 have g:(s.heap.update a (zT jR t')).get? a=a_ { o with data:=.set jR (ep+1) t' }:=by
  have z:=MK (zT jR t') q (by rw[putSet_of jR t' d];rfl);rw[putSet_of jR t' d]at z;exact z
 exact⟨g,⟨_,jR,ep+1,t',ks,g,x,rfl,r,p,nd,f,tb⟩⟩
theorem Oj{g:Bool->Sem Unit}(hg:∀(b:Bool) (s1:g_) (Q':Unit->g_->Prop),Q' () s1->wpAny (model P w) A (g b) Q' E s1){es gn:Array (Int×f_)}{ep:Nat}{t t2:cb}{wd:Bool}{R:Option Bool->g_->Prop}
  (q:s.heap.get? a=a_ o) (x:o.ExactSet) (d:o.data=.set es ep t) (r:Paired (qD P w) gn.toList ks) (p:List.Perm ks ns) (nd:ns.Nodup) (lb:gn.size<zZ) (f:t2.fits gn.size=c_) (tb:lh (!Ej w) t2)
  (k:∀h',kG a s.heap h'->kh P w h' a ns->R (a_ c_) { s with heap:=h' }) :
  wpAny (model P w) A (do storeSet a gn t2;if (!wd&&t2.tooFull)=c_ then (do g (Ab t2 gn (xH gn.size)).2.2;storeSet a (Ab t2 gn (xH gn.size)).1 (Ab t2 gn (xH gn.size)).2.1;pure (a_ c_)) else pure (a_ c_)) R E s:=by
 refine oA (NO (s:=s) q x d r p nd f tb) λq1 S1=>?_;have b1:=zB s.heap a (zT gn t2);refine aj (wpAny_storeSet_of q d ?_ (fits_of_scanBound lb))
 split
 ·have rp:=relayAll_perm t2 gn (xH gn.size);have rf:=relayAll_fits t2 gn (xH gn.size);have rt:=YZ tb gn (xH gn.size);generalize Ab t2 gn (xH gn.size)=Y at rp rf rt ⊢;obtain⟨es2,t3,gv⟩:=Y;dsimp only at rp rf rt ⊢;refine ai (NC rp r) λks2 p2 r2=>?_;have zz:es2.size=gn.size:=by rw[<-dj,rp.length_eq,dj]
  refine aj (hg _ _ _ (aj (wpAny_storeSet_of q1 rfl ?_ (fits_of_scanBound (by rw[zz];exact lb)))));exact oA (NO (s:={ s with heap:=s.heap.update a (zT gn t2) }) q1 x rfl r2 (p2.trans p) nd rf rt) λ_ S2=>aM (k _ (b1.trans (zB _ a _)) S2)
 ·exact aM (k _ b1 S1)
def nL(k:Int)(ns:List Int):List Int:=if k∈ns then ns else ns++[k]
theorem Z2{k:Int}{tk:Tok}{Q:Bool->g_->Prop}(S:kh P w s.heap a ns)(lb:ns.length+1<zZ)(h:∀b h',kG a s.heap h'->kh P w h' a (nL k ns)->Q b { s with heap:=h' }) :
  wpAny (model P w) A (setAddHashed a (.int k tk) ((intKind P w).hash k)) Q E s:=by
 refine fj S λo es ep t ks aa=>qe aa λq x d r p aa=>dg aa λnd f tb=>?_;have el:=Pp r;have hz:es.size=ns.length:=by rw[<-dj,Nf r,p.length_eq]
 have kk:(intKind P w).is k (.int k tk)=true:=Gm _ _ _ _;unfold setAddHashed setAddHashedIn;refine(jw (aj (wpAny_setState_of q d f ?_)));dsimp only;rw[byScan_of (knd:=intKind P w) (x:=.int k tk) rfl li el];simp only[↓reduceIte];unfold setAddByScan;refine aj (aj (vv (aj (wpAny_setScan_of kk q d f el ?_))));have sm:=O6 (k:=k) r;cases sc:List.findIdx? (λe=>(intKind P w).is k e.2) es.toList with
 | some j=>
  dsimp only;have mem:=p.mem_iff.mp (sm.mp (by rw[sc];rfl));refine aM (aM ?_);have e:nL k ns=ns:=if_pos mem;exact h d_ s.heap (kG.refl a s.heap) (by rw[e];exact⟨o,es,ep,t,ks,q,x,d,r,p,nd,f,tb⟩)
 | none=>
  dsimp only
  have nm:k∉ns:=λz=>by
   have:=sm.mpr (p.mem_iff.mpr z);rw[sc]at this;cases this
  have e:nL k ns=ns++[k]:=if_neg nm;have gw:∀(b:Bool) {s1:g_} {Q':Unit->g_->Prop},Q' () s1->wpAny (model P w) A (match b with | true=>rule "set.scan.the-table-gave-way" | false=>pure ()) Q' E s1:=λb s1 Q' z=>by cases b <;> first | exact aM z | exact vv z
  have lp:=layNew_perm t es ((intKind P w).hash k) (.int k tk);have lf:=layNew_fits t es ((intKind P w).hash k) (.int k tk);have lt:=Yn tb es ((intKind P w).hash k) (.int k tk);generalize layNew t es ((intKind P w).hash k) (.int k tk)=Y at lp lf lt ⊢;obtain⟨gn,t1,wd,gv⟩:=Y;dsimp only at lp lf lt ⊢;rw[FA]at lp;refine ai (NC lp (NS (x:=((intKind P w).hash k,.int k tk)) (k:=k) ⟨rfl,tk,rfl⟩ r)) λks1 p1 r1=>?_;have pp:List.Perm ks1 (nL k ns):=by rw[e];exact p1.trans (p.append_right _)
  have nn:(nL k ns).Nodup:=by
   rw[e];refine List.nodup_append.mpr (eT nd (by simp) λy hy z hz=>?_);rw[List.mem_singleton.mp hz];intro ez;exact nm (ez ▸ hy)
  have Vh:gn.size<zZ:=by
   rw[<-dj,lp.length_eq,List.length_append,dj,hz];exact lb
  have fin:=λh'=>h c_ h';refine aj (gw _ ?_);have U2:∀(b:Bool) (s1:g_) (Q':Unit->g_->Prop),Q' () s1->wpAny (model P w) A (match b with | true=>rule "set.scan.the-table-gave-way" | false=>pure ()) Q' E s1:=λb s1 Q' z=>gw b z
  split
  ·refine aj ?_;rw[hashByValue_scannable 8 (x:=.int k tk) rfl];refine aM (Oj U2 q x d r1 pp nn Vh ?_ ?_ λh' sb S'=>?_)
   ·split
    ·exact lf
    ·exact cb.fits_plain_off lf
   ·split
    ·exact lt
    ·exact⟨lt.K0,lt.led,λz=>by cases z⟩
   ·dsimp only;exact aM (fin h' sb S')
  ·refine aj (aM ?_);simp only[↓reduceIte];refine Oj U2 q x d r1 pp nn Vh lf lt λh' sb S'=>?_;dsimp only;exact aM (fin h' sb S')
end
theorem kh.keep{P:l_}{w:k_}(S:kh P w h a ns)(k:∀o,h.get? a=a_ o->h'.get? a=a_ o):kh P w h' a ns:=
 let ⟨o,es,ep,t,ks,q,r⟩:=S;⟨o,es,ep,t,ks,k o q,r⟩
def qk(ns:List Int):List Int:=ns.foldl (λacc k=>nL k acc) []
def oN(val:Nat->Int)(i:Nat):List Int:=qk ((List.range i).map val)
theorem NW(val:Nat->Int)(i:Nat):oN val (i+1)=nL (val i) (oN val i):=by
 unfold oN qk;rw[List.range_succ,List.map_append,List.foldl_append];rfl
theorem abf(k:Int)(ns:List Int):(nL k ns).length<=ns.length+1:=by
 unfold nL
 split
 ·exact kJ _
 ·rw[List.length_append,List.length_singleton];exact aw _
theorem Gv(val:Nat->Int):∀i,(oN val i).length<=i
 | 0=>aw _
 | i+1=>by
  rw[NW];have:=abf (val i) (oN val i);have:=Gv val i;lia
theorem abe{k x:Int}:x∈nL k ns↔x=k\/x∈ns:=by
 unfold nL
 split
 ·rename_i h
  exact⟨.inr,λz=>z.elim (λe=>e ▸ h) id⟩
 ·simp[or_comm]
theorem OD{x:Int}:∀{l acc:List Int},x∈l.foldl (λacc k=>nL k acc) acc↔x∈l\/x∈acc
 | [],acc=>by simp
 | k::l,acc=>by
  rw[List.foldl_cons,OD,abe,List.mem_cons];constructor
  ·rintro(h | h | h)
   ·exact .inl (.inr h)
   ·exact .inl (.inl h)
   ·exact .inr h
  ·rintro((h | h) | h)
   ·exact .inr (.inl h)
   ·exact .inl h
   ·exact .inr (.inr h)
theorem aan{x:Int}:x∈qk ns↔x∈ns:=by
 unfold qk;rw[OD];simp
section
variable{P:l_}{w:k_}{A:h_}{E:f_->g_->Prop}{s:g_}
theorem ZZ{fp wr:List e_}{n:Nat}{Pv:Nat->f_->Prop}{St:Nat->j_->Prop}{R:Result->g_->Prop}(W:Walks P w A.in1 I fp wr n Pv St)(Fd:S∉fp)(val:Nat->Int)(yB:∀i v,Pv i v->∃t,v=.int (val i) t)(hb:n+1<zZ) :
  ∀(k i:Nat) (s:g_),n-i=k->i<=n->St i s.heap->kh P w s.heap S (oN val i)->
   (∀h' tk,(∀b o,b∉S::wr->s.heap.get? b=a_ o->h'.get? b=a_ o)->kh P w h' S (oN val n)->R (.ok (.ret .none)) { s with heap:=h',toks:=tk })->
   codeAny (model P w) A (.builtin "set.update.loop" ⟨[.ref S,.ref I],[]⟩) R s:=by
 have V':S∉wr:=λh=>Fd (W.sub _ h);intro k
 induction k with
 | zero=>
  intro i s hk hi st hS hR;have ei:i=n:=li;subst ei;refine(qY F.entry_set_update_loop (?_:wpAny _ _ _ _ _ s));rw[(tf F.plain_set_update_loop _)];show wpAny _ A.in1 (pyNext (.ref I) >>= _) _ _ s;refine aj (W.done s _ _ st λh' tk kk=>(?_:wpAny _ A.in1 (ret oo) _ _ _));exact aM (hR h' tk (λb o hb e=>kk b o (λz=>hb (List.mem_cons_of_mem _ z)) e) (hS.keep λo e=>kk _ _ V' e))
 | succ k ih=>
  intro i s hk hi st hS hR;refine(qY F.entry_set_update_loop (?_:wpAny _ _ _ _ _ s));rw[(tf F.plain_set_update_loop _)];show wpAny _ A.in1 (pyNext (.ref I) >>= _) _ _ s;refine aj (W.item i s _ _ om st λv h' tk hP ak kk=>oE (yB i v hP) λt aa=>?_);subst aa;have hS1:=hS.keep (h':=h') λo e=>kk _ _ V' e;refine(aj (jw (?_:wpAny _ A.in1 (setAdd S (.int (val i) t)) _ _ { s with heap:=h',toks:=tk })));unfold setAdd;refine jw (aj ((intKind P w).pyHash (k:=val i) (Gm _ _ _ _) ?_));have hl:=Gv val i;refine Z2 (s:={ s with heap:=h',toks:=tk+1 }) hS1 li λb h2 sb hS2=>?_;have so:∀b,b≠S->h2.get? b=h'.get? b:=λb z=>sb.2 b z;refine aM ⟨qZ F.plain_set_update_loop _,ih (i+1) { s with heap:=h2,toks:=tk+1 } om li (W.frame _ _ _ ak λb hb o e=>?_) (by rw[NW];exact hS2) λh3 tk3 k3 hS3=>?_⟩
  ·rw[so b λz=>Fd (z ▸ hb)];exact e
  ·refine hR h3 tk3 (λb o hb e=>k3 b o hb ?_) hS3;rw[so b λz=>hb (z ▸ List.mem_cons_self)];exact kk b o (λz=>hb (List.mem_cons_of_mem _ z)) e
abbrev oF(w:k_):Obj:={ cls:=.type "set",dict:=b_,data:=.set #[] 0 (.fresh 0 0 (!Ej w)) }
theorem Z1(e:h.get? a=a_ (oF w)):kh P w h a []:=⟨_,#[],0,_,[],e,⟨rfl,rfl,rfl⟩,rfl,.nil,.nil,.nil,rfl,Y0 _⟩
theorem abz(x:f_)(h:Q (.ref s.heap.objs.size) { s with heap:=s.heap.push (oF w) }):codeAny (model P w) A (.call (.builtin "set.__new__") ⟨[.type "set",x],[]⟩) (wants Q E) s:=by
 refine codeAny_of_tree (?_:wpAny _ A.in1 (do checkBuiltinCall "set.__new__" ⟨[.type "set",x],[]⟩;again (.builtin "set.__new__" ⟨[.type "set",x],[]⟩)) _ _ s);refine aj (Ga (F.newCall_set_1 x) (aM ⟨qZ F.plain_set_new _,(qY F.entry_set_new (?_:wpAny _ _ _ _ _ s))⟩));rw[(tf F.plain_set_new _)];unfold Builtin.«set.__new__» Builtin.Frozenset.newClass;have DV:=sub_set_self;obtain⟨hp,g,d,tk,os⟩:=s;dsimp only
 wp_walk
 refine wpAny_askSetting (aM ?_);dsimp only;simp only[newObj];exact aj (wpAny_alloc (aM (aM h)))
set_option maxHeartbeats 6000000 in
theorem Z0{items:Array f_}(hh:A.handled=b_)(hl:s.heap.IsList l items)(hi:IntsAre items.toList ns)(hb:items.size+1<zZ)
  (h:∀(h':j_) (tk:Nat),kh P w h' s.heap.objs.size (oN (λi=>ns.getD i 0) items.size)->(∀b o,s.heap.get? b=a_ o->h'.get? b=a_ o)->Q (.ref s.heap.objs.size) { s with heap:=h',toks:=tk }) :
  wpAny (model P w) A (call (.type "set") [.ref l]) Q E s:=by
 refine yK F.called_set.mro λc tl ajc=>?_;have aiR:=F.called_set.made;have DV:=F.called_set.sub;refine Gk (codeAny_of_tree (?_:wpAny _ _ (callAny (.type "set") _) _ _ _));refine aM ⟨Code.quiet_builtin _ dk,(qY F.entry_type_call (?_:wpAny _ _ _ _ _ s))⟩;rw[Around.under_plain (weight_type_call_type "set" [.ref l] []) rfl];have h1:=F.called_set.notType;have h2:=F.called_set.canCreate;have VW:=F.typeCall_set_1 (.ref l)
 repeat (any_goals (first | assumption | wp_step))
 refine zO (abz (.ref l) (E:=E) (Q:=λobj s₁=>obj=.ref s.heap.objs.size/\s₁={ s with heap:=s.heap.push (oF w) }) ⟨rfl,rfl⟩) λr s₁ hr=>?_;cases r with
 | error e=>exact hr
 | ok fl=>
  cases fl with
  | ret obj=>
   refine oA hr λaa a8=>?_;clear hr;subst aa;subst a8;have hS:(s.heap.push (oF w)).get? s.heap.objs.size=a_ (oF w):=dw _ rfl;have hT:Shared.TypeIs { s with heap:=s.heap.push (oF w) } (.ref s.heap.objs.size) "set":=⟨_,hS,rfl⟩;have xj:=F.called_set.init.lookup;have hbi:=F.called_set.init.bind (.ref s.heap.objs.size)
   repeat (any_goals (first | assumption | wp_step))
   refine zO (codeAny_call_builtin (R:=wants (λr s₂=>r=.none/\∃h' tk,s₂={ s with heap:=h',toks:=tk }/\kh P w h' s.heap.objs.size (oN (λi=>ns.getD i 0) items.size)/\(∀b o,s.heap.get? b=a_ o->h'.get? b=a_ o)) E) F.called_set.init.plain F.entry_set_init (check_set_init_1 hT ?_)) λr₂ s₂ E1=>?_
   ·refine aO hl λol m5 ng aa=>oE aa λnl VV=>?_;obtain⟨ai5,agm,aiQ,aes⟩:=ol;simp only at ng VV;subst ng;subst VV;have ahI:(s.heap.push (oF w)).get? l=a_ { cls:=.type "list",dict:=agm,data:=.seq items nl,slots:=aes }:=aY _ m5;have ai':=F.sub_list_set;have aja:=F.sub_list_frozenset;have eA:(pY "list" == pY "dict")=false:=qc;have eB:(s.heap.push (oF w)).IsList l items:=⟨_,ahI,rfl,nl,rfl⟩;unfold Builtin.«set.__init__» noKeywords Builtin.Frozenset.updateFrom;generalize hPI:pyIter=PI
    wp_walk
    subst hPI;refine(xC eB (aj (wpAny_runValue ?_)));have VO:=bq m5;have hh3:A.in1.in1.in1.handled=none:=by simp[hh]
    have z1:(s.heap.push (oF w)).objs.size=s.heap.objs.size+1:=lO _ _;have ahK:l≠(s.heap.push (oF w)).objs.size:=by rw[z1];exact cI (zF VO)
    have Fd:s.heap.objs.size∉[(s.heap.push (oF w)).objs.size,l]:=by
     rw[z1];simp only[List.mem_cons,List.mem_singleton,List.not_mem_nil,or_false,not_or];exact⟨cI (zH _),rh VO⟩
    have yB:∀(i:Nat) (v:f_),items[i]?=a_ v->∃t,v=.int ((λi=>ns.getD i 0) i) t:=λi v hv=>IntsAre.int_at hi i v (by rw[pN];exact hv);refine ZZ (Ca hh3 _ l ahK items) Fd (λi=>ns.getD i 0) yB hb (items.size-0) 0 _ li (aP _) ⟨⟨_,dw _ rfl,rfl,rfl⟩,(eB.push _)⟩ (Z1 (aY _ hS)) λh' tk kk S'=>?_;refine(aM (?_:wpAny _ _ (ret oo) _ _ _));refine aM ⟨rfl,⟨h',tk,rfl,S',λb o e=>kk b o ?_ (aY _ (aY _ e))⟩⟩;have hb:=bq e;rw[z1];simp only[List.mem_cons,List.mem_singleton,List.not_mem_nil,or_false,not_or];exact⟨cI hb,cI (zF hb)⟩
   ·cases r₂ with
    | error e=>exact E1
    | ok fl₂=>
     cases fl₂ with
     | ret r=>
      refine oA E1 λaa a8=>?_;clear E1;subst aa;refine dC a8 λh' tk aa Mi uX=>?_;clear a8;subst aa
      repeat (any_goals (first | assumption | wp_step))
      exact h _ _ Mi uX
     | _=>exact E1.elim
  | _=>exact hr.elim
end
theorem range_getD(ks:List Int):(List.range ks.length).map (λj=>ks.getD j 0)=ks:=by
 apply List.ext_getElem
 ·simp
 ·intro i h1 h2;simp[h2]
def AH(P:l_)(w:k_)(a:e_)(ns:List Int):HO:=.ext λh=>kh P w h a ns
theorem abB{P:l_}{w:k_}(S:kh P w h a ns):de P w H h a (AH P w a ns):=by
 exact aci (id S) λo es ep t ks q _=>eT S ⟨o,q⟩ λh1 h2 g k=>g.keep k
theorem Qb(ns:List Int):oN (λi=>ns.getD i 0) ns.length=qk ns:=by
 unfold oN;rw[range_getD]
theorem aao(ns:List Int):(qk ns).length<=ns.length:=by
 rw[<-Qb];exact Gv _ _
section
variable{X:Cx}
def aeY(P:l_)(w:k_)(K:u_):List V->Hp->VK->Prop:=λxs H Q=>∃(p:e_) (ns:List Int),xs=[.ref p]/\ae K H p (ns.map V.int)/\ns.length<4000/\∀a,H a=b_->Q (.ref a) (upd H a (AH P w a (qk ns)))
theorem ZL(hc:X.calm=c_):jC X (.type "set") (aeY X.prog X.w X.K):=by
 intro p_ s σ H xs us Q I r h;refine ic h λp ns aa hl hz q=>?_;clear h;subst aa;refine ai (vals1 r) λu aa rx=>?_;subst aa;cases rx;refine aO (I.list hl) λits rv pl sL=>?_;have il:=rv.length;rw[List.length_map]at il;have hs:its.toArray.size=its.length:=List.size_toArray;refine Z0 (items:=its.toArray) (ns:=ns) (I.ok.hd hc) pl.isList (by rw[List.toList_toArray];exact intsAre_of rv) (by rw[hs];unfold zZ;lia) λh' tk S k=>?_;rw[hs,<-il,Qb]at S;have hn:=I.aD.fresh (aw _);have f:=I.iM (b:=s.heap.objs.size) (aw _) hn;have J:Inv X p_ σ H { s with heap:=h',toks:=tk }:=I.kept k;exact dZ (.ref s.heap.objs.size) _ (Inv.adopt (o:=AH X.prog X.w s.heap.objs.size (qk ns)) J hn I.sz f.2.1 f.2.2.2.2.1 f.2.2.2.2.2 (abB S)) rfl (q _ hn)
end
end L2
namespace TL
open L2 L3
variable{P:l_}{w:k_}{K:u_}{mg:Str->Option f_}{base:j_}
structure Ent where
 (t n num d:Int)
 deriving DecidableEq
def cw(es:List Ent)(i:Nat):List Ent:=es.filter λe=>decide (e.n=(i:Int))
def yr(H:Hp)(v:V)(e:Ent):Prop:=∃p s,v=.ref p/\H p=a_ (.tup [.int e.t,.ref s])/\H s=a_ (.tup [.int e.n,.int e.num,.int e.d])
def En(H:Hp)(b:e_)(es:List Ent):Prop:=∃vs,H b=a_ (.lst vs)/\Paired (yr H) vs es
def QD:List Str:=["add","latest","fronts","take","is_empty","listed","twin"]
structure jJ(tn:Int)(es:List Ent):Prop where
 asc:es.Pairwise λx y=>x.t<y.t
 nm:∀e∈es,0<=e.n/\e.n<12
 lt:∀e∈es,e.t<tn
structure c9(H:Hp)(a C:e_)(kd:Str)(tn:Int)(es:List Ent)(q:e_)(qr:List e_):Prop where
 obj:∃dx fs,H a=a_ (.ins C dx fs)/\fs.lookup ("kind" : Str)=a_ (V.str kd)/\fs.lookup ("turn" : Str)=a_ (V.int tn)/\fs.lookup ("queues" : Str)=a_ (V.ref q)/\(∀m∈QD,fs.lookup m=b_)/\fs.length<=20
 qs:H q=a_ (.lst (qr.map V.ref))
 len:qr.length=12
 nd:qr.Nodup
 nq:q∉qr
 i7:∀i b,qr[i]?=a_ b->En H b (cw es i)
 wf:jJ tn es
structure fk(F:List e_)(H H':Hp):Prop where
 k:∀b o,b∉F->(∀ps,o≠.eh ps)->H b=a_ o->H' b=a_ o
 t:∀b,H' b=b_->H b=b_
theorem fk.of(s:ah H H'):fk F H H':=⟨λb o _ _ e=>s b o e,λb h=>s.free h⟩
theorem fk.trans(a:fk F H H1)(b:fk F H1 H2):fk F H H2:=⟨λc o h1 h2 e=>b.k c o h1 h2 (a.k c o h1 h2 e),λc h=>a.t c (b.t c h)⟩
theorem fk.T6{P:e_}{ps EB:Array f_}(s:t7 P H H')(hP:H P=a_ (.eh ps))(Mj:H' P=a_ (.eh EB)):fk [] H H':=
 ⟨λb o _ n e=>s b o (λz=>by rw[z,hP]at e;cases e;exact n ps rfl) e,λb h=>by
  cases e:H b with
  | none=>rfl
  | some o=>
   by_cases z:b=P
   ·rw[z,Mj]at h;cases h
   ·rw[s b o z e]at h;cases h⟩
theorem zR{P:e_}{pos:Pos}{qual:Str}{F:List e_}{H H':Hp}(h:cY P pos qual H)(k:∀b o,b∉F->H b=a_ o->H' b=a_ o)(hF:∀b∈F,∀o,H b=a_ o->(∃C dx fs,o=.ins C dx fs)\/∃xs,o=.lst xs):cY P pos qual H':=by
 refine ai h λps hP hc=>?_
 have nP:P∉F:=λz=>by
  rcases hF P z _ hP with ⟨_,_,_,e⟩ | ⟨_,e⟩ <;> cases e
 refine aA ps (k P _ nP hP) ?_;rcases hc with e | ⟨c,e,hc⟩
 ·exact .inl e
 ·refine .inr (aA c e (k c _ (λz=>?_) hc));rcases hF c z _ hc with ⟨_,_,_,e⟩ | ⟨_,e⟩ <;> cases e
theorem oh{P:e_}{pos:Pos}{qual:Str}{H H':Hp}(h:cY P pos qual H)(k:ah H H'):cY P pos qual H':=zR (F:=[]) h (λb o _ e=>k b o e) λb hb=>nomatch hb
theorem yr.keep{F:List e_}(h:yr H v e)(k:∀b xs,H b=a_ (.tup xs)->H' b=a_ (.tup xs)):yr H' v e:=let ⟨p,s,e1,e2,e3⟩:=h;⟨p,s,e1,k _ _ e2,k _ _ e3⟩
theorem CU{α β:Type}{F G:α->β->Prop}(f:∀a b,F a b->G a b):∀{l:List α} {r:List β},Paired F l r->Paired G l r
 | _,_,.nil=>.nil
 | _,_,.cons h t=>.cons (f _ _ h) (CU f t)
theorem En.keep(h:En H b es)(kb:∀o,H b=a_ o->H' b=a_ o)(k:∀b xs,H b=a_ (.tup xs)->H' b=a_ (.tup xs)):En H' b es:=let ⟨vs,e,r⟩:=h;⟨vs,kb _ e,CU (λ_ _ z=>z.keep (F:=[]) k) r⟩
theorem c9.keep{tn:Int}(T:c9 H a C kd tn es q qr)(k:∀b∈a::q::qr,∀o,H b=a_ o->H' b=a_ o)(kt:∀b xs,H b=a_ (.tup xs)->H' b=a_ (.tup xs)):c9 H' a C kd tn es q qr:=by
 obtain⟨⟨dx,fs,e,r⟩,qs,len,nd,nq,i7,wf⟩:=T;exact⟨⟨dx,fs,k a (by simp) _ e,r⟩,k q (by simp) _ qs,len,nd,nq,λi b hb=>(i7 i b hb).keep (λo=>k b (by simp[List.mem_of_getElem? hb]) o) kt,wf⟩
theorem c9.afr{tn:Int}(T:c9 H a C kd tn es q qr)(k:fk F H H')(hF:∀b∈F,b∉a::q::qr)(hT:∀b∈F,∀xs,H b≠a_ (.tup xs)):c9 H' a C kd tn es q qr:=by
 refine T.keep (λb hb o e=>k.k b o (λz=>hF b z hb) (λps z=>?_) e) λb xs e=>k.k b _ (λz=>hT b z xs e) (λps z=>by cases z) e;subst z;rcases List.mem_cons.mp hb with z | z
 ·refine bX T.obj λdx fs e' _=>?_;rw[z,e']at e;cases e
 ·rcases List.mem_cons.mp z with z | z
  ·rw[z,T.qs]at e;cases e
  ·refine oE (List.getElem_of_mem z) λi aa=>oE aa λhi ez=>?_;obtain⟨vs,e',_⟩:=T.i7 i b (by rw[<-ez];exact List.getElem?_eq_getElem hi);rw[e']at e;cases e
theorem c9.rQ{tn:Int}(T:c9 H a C kd tn es q qr)(k:fk [] H H'):c9 H' a C kd tn es q qr:=T.afr k (λb hb=>nomatch hb) λb hb=>nomatch hb
theorem c9.kinds{tn:Int}(T:c9 H a C kd tn es q qr):∀b∈a::q::qr,∀o,H b=a_ o->(∃C dx fs,o=.ins C dx fs)\/∃xs,o=.lst xs:=λb hb o e=>by
 rcases List.mem_cons.mp hb with z | z
 ·refine bX T.obj λdx fs e' _=>?_;rw[z,e']at e;cases e;exact .inl (⟨_,_,_,rfl⟩)
 ·rcases List.mem_cons.mp z with z | z
  ·rw[z,T.qs]at e;cases e;exact .inr ⟨_,rfl⟩
  ·refine oE (List.getElem_of_mem z) λi aa=>oE aa λhi ez=>?_;obtain⟨vs,e',_⟩:=T.i7 i b (by rw[<-ez];exact List.getElem?_eq_getElem hi);rw[e']at e;cases e;exact .inr ⟨_,rfl⟩
theorem c9.there{tn:Int}(T:c9 H a C kd tn es q qr):∀b∈a::q::qr,∃o,H b=a_ o:=λb hb=>by
 rcases List.mem_cons.mp hb with z | z
 ·exact bX T.obj λdx fs e' _=>⟨_,by rw[z];exact e'⟩
 ·rcases List.mem_cons.mp z with z | z
  ·exact⟨_,by rw[z];exact T.qs⟩
  ·refine oE (List.getElem_of_mem z) λi aa=>oE aa λhi ez=>?_;obtain⟨vs,e',_⟩:=T.i7 i b (by rw[<-ez];exact List.getElem?_eq_getElem hi);exact⟨_,e'⟩
def yf(es:List Ent)(i:Nat):Option Ent:=(cw es i).getLast?
def jY(es:List Ent):List Int:=((List.range 12).filter λi=>decide (cw es i≠[])).map λ(i:Nat)=>(i:Int)
def gH(kd:Str)(es:List Ent):List Int:=if kd = "row" then (es.head?.map (·.n)).toList else jY es
def gR(es:List Ent)(n:Int):List Ent:=es.eraseP λe=>decide (e.n=n)
theorem abX(i:Nat):cw [] i=[]:=rfl
theorem P8(es:List Ent)(e:Ent)(i:Nat):cw (es++[e]) i=if e.n=(i:Int) then cw es i++[e] else cw es i:=by
 unfold cw;rw[List.filter_append]
 by_cases h:e.n=(i:Int)
 ·rw[if_pos h];simp[h]
 ·rw[if_neg h];simp[h]
theorem zV{n:Int}:n∈jY es↔∃i:Nat,i<12/\n=i/\cw es i≠[]:=by
 unfold jY;rw[List.mem_map];constructor
 ·rintro⟨i,hi,rfl⟩;rw[List.mem_filter,List.mem_range]at hi;exact dQ i hi.1 rfl (by simpa using hi.2)
 ·rintro⟨i,h1,rfl,h2⟩;exact aA i (by rw[List.mem_filter,List.mem_range];exact⟨h1,by simpa using h2⟩) rfl
theorem Pl{i:Nat}(h:es.head?=a_ e)(hi:e.n=(i:Int)):(cw es i).head?=a_ e:=by
 cases es with
 | nil=>cases h
 | cons x r=>
  cases h;unfold cw;rw[List.filter_cons,if_pos (by simpa using hi)];rfl
theorem acO{tn:Int}{n num d:Int}(w:jJ tn es)(h0:0<=n)(h1:n<12):jJ (tn+1) (es++[⟨tn,n,num,d⟩]):=by
 refine⟨List.pairwise_append.mpr ⟨w.asc,List.pairwise_singleton _ _,λx hx y hy=>?_⟩,λe he=>?_,λe he=>?_⟩
 ·rw[List.mem_singleton.mp hy];exact w.lt x hx
 ·rcases List.mem_append.mp he with z | z
  ·exact w.nm e z
  ·rw[List.mem_singleton.mp z];exact⟨h0,h1⟩
 ·rcases List.mem_append.mp he with z | z
  ·have:=w.lt e z;lia
  ·rw[List.mem_singleton.mp z];show tn<tn+1;lia
theorem abn{tn:Int}(w:jJ tn es)(n:Int):jJ tn (gR es n):=by
 have sub:(gR es n).Sublist es:=List.eraseP_sublist;exact⟨w.asc.sublist sub,λe he=>w.nm e (sub.subset he),λe he=>w.lt e (sub.subset he)⟩
theorem aac(es:List Ent)(n:Int)(i:Nat):cw (gR es n) i=if n=(i:Int) then (cw es i).tail else cw es i:=by
 induction es with
 | nil=>unfold gR cw;simp
 | cons e r ih=>
  unfold gR at ih ⊢;rw[List.eraseP_cons]
  by_cases h:e.n=n
  ·rw[decide_eq_true h,cond_true];unfold cw
   by_cases hi:n=(i:Int)
   ·rw[if_pos hi,List.filter_cons,if_pos (by simpa using h.trans hi)];rfl
   ·rw[if_neg hi,List.filter_cons,if_neg (by simpa using λz:e.n=(i:Int)=>hi (h.symm.trans z))]
  ·rw[decide_eq_false h,cond_false];unfold cw at ih ⊢;rw[List.filter_cons,List.filter_cons]
   by_cases he:e.n=(i:Int)
   ·have VL:¬n=(i:Int):=λz=>h (he.trans z.symm);rw[if_neg VL]at ih;simp only[decide_eq_true he,if_true];rw[if_neg VL,ih]
   ·simp only[decide_eq_false he,Fw,if_false];rw[ih]
structure BT(mg:Str->Option f_):Prop where
 i8:mg "isinstance" = b_
 int:mg "int" = b_
 bool:mg "bool" = b_
 str:mg "str" = b_
 len:mg "len" = b_
 all:mg "all" = b_
 range:mg "range" = b_
 enum:mg "enumerate" = b_
 min:mg "min" = b_
 sorted:mg "sorted" = b_
structure ke(K:u_)(C:e_):Prop where
 cl:fq K C
 kind:cV K C "kind"
 turn:cV K C "turn"
 tO:cV K C "queues"
def Sn(C:e_):Sp:=λvs H Q _=>∃x dx kd,vs=[.ref x,.str kd]/\H x=a_ (.ins C dx [])/\∀H' q qr,c9 H' x C kd 0 [] q qr->(∀b o,b≠x->H b=a_ o->H' b=a_ o)->(∀b∈q::qr,H b=b_)->Q .aH H'
theorem agO:bf ["self","kind"] ["self","kind"] (aR Ed):=bz
theorem acq:(["name"]:List Str).Nodup:=dk
theorem afq(f:Str)(u:V):(aQ f u []).length<1000:=by
 have h1:=pV f u [];have h3:([]:List (Str×V)).length=0:=rfl;exact wb
theorem afp(f g:Str)(u v:V):(aQ f u (aQ g v [])).length<1000:=by
 have h1:=pV f u (aQ g v []);have h2:=pV g v [];have h3:([]:List (Str×V)).length=0:=rfl;exact xi
theorem PL:∀m∈QD,¬m = "kind"/\¬m = "turn"/\¬m = "queues":=dk
theorem su(kd:Str)(q:e_):(aQ "queues" (.ref q) (aQ "turn" (.int 0) (aQ "kind" (.str kd) [])))=[(("kind" : Str),V.str kd),(("turn" : Str),V.int 0),(("queues" : Str),V.ref q)]:=by
 have n1:¬("kind" : Str) = "turn":=dk;have n2:¬("kind" : Str) = "queues":=dk;have n3:¬("turn" : Str) = "queues":=dk;simp only[aQ,n1,n2,n3,if_false]
theorem ae7(F:aU K "__init__" "Tray.__init__" Ed f fd)(B:BT mg)(cT:ke K C)(mN:∃u,mg "NAMES" = a_ u/\RelV (.int 12) u):ax P w K mg base ay 1 f fd ["self","kind"] (Sn C):=by
 refine ai mN λuN mN rN=>F.ok agO λaL A _ s H vs Q E hr h=>?_
 ·refine iY h λx dx kd aa hx k=>?_;clear h;subst aa
  refine let R1:TS:=_;let R2:TS:=_;⟨_,ar (hZ (pv 0) (pv 1) rfl) (pR R2 (ar (hZ (pv 0) aq rfl) (pR R1 (aG (hZ (pv 0) (g6 (N:=["name"]) (idx:=[]) rfl (cZ.of (by kernel_rfl)) (gF (aP _))
   (jh rfl B.range (ab (gx rfl mN rN) af)) (λ_ _ _ _=>bb (i:=0) acq rfl (aF rfl) (.inr rfl)) (λ_ _ _ _=>gZ) λ_ _ _ _=>dy af) rfl))))),?_⟩
  refine vr rfl (vr rfl (kL x C dx ([]) rfl hx cT.cl cT.kind qc (aA _ rfl (⟨x,C,dx,(jy _ rfl ao cT.cl cT.turn (afq _ _) ?_)⟩))));rw[vA];refine⟨12,rfl,qc,qc,?_⟩;generalize Bw:upd H x (.ins C dx (aQ "turn" (.int 0) (aQ "kind" (.str kd) [])))=H1;have eV:H1 x=a_ (.ins C dx (aQ "turn" (.int 0) (aQ "kind" (.str kd) []))):=by rw[<-Bw];exact ao
  have n1:∀b,H1 b=b_->H b=none:=λb e=>by
   rw[<-Bw]at e
   by_cases z:b=x
   ·rw[z,ao]at e;cases e
   ·rwa[ag z]at e
  refine eN (n:=12) (λi ys H'=>∃qr:List e_,ys=qr.map V.ref/\qr.length=i/\qr.Nodup/\(∀b∈qr,H' b=a_ (.lst [])/\H1 b=b_)/\ah H1 H') qc ⟨[],rfl,rfl,.nil,(λb hb=>nomatch hb),ah.refl _⟩ ?_ ?_ ?_ ?_ ?_
  ·rintro i ys H' ⟨qr,rfl,hl,_⟩;rw[List.length_map,hl];exact aw _
  ·rintro i ys H' hi _;exact hi
  ·rintro ys H' _;exact aw _
  ·rintro i ys H' hi ⟨qr,rfl,hl,nd,hq,sm⟩ y iE ⟨eH,ey⟩;subst eH;dsimp only[jj,mf];rw[if_pos rfl];refine⟨qc,λp hp=>⟨qr++[p],by simp,by simp[hl],?_,λb hb=>?_,aE sm hp⟩⟩
   ·refine List.nodup_append.mpr (eT nd (by simp) λb hb c hc=>?_);rw[List.mem_singleton.mp hc];exact cG (hq b hb).1 hp
   ·rcases List.mem_append.mp hb with z | z
    ·exact⟨by rw[ag (cG (hq b z).1 hp)];exact(hq b z).1,(hq b z).2⟩
    ·rw[List.mem_singleton.mp z];refine⟨ao,?_⟩;cases e:H1 p with
     | none=>rfl
     | some o=>rw[sm _ _ e]at hp;cases hp
  ·rintro ys H' ⟨qr,rfl,hl,nd,hq,sm⟩;refine⟨by rw[List.length_map,hl];decide,λq y9=>?_⟩;have nx:=cG (sm _ _ eV) y9;refine vr rfl (⟨x,C,dx,(jy _ rfl (by rw[ag nx];exact sm _ _ eV) cT.cl cT.tO (afp _ _ _ _) ?_)⟩);have yL:q∉qr:=λz=>by rw[(hq q z).1]at y9;cases y9
   have xqr:x∉qr:=λz=>by have:=(hq x z).2;rw[eV]at this;cases this
   refine k _ q qr ⟨⟨dx,_,ao,?_,?_,?_,?_,?_⟩,by rw[ag (cB nx),ao],hl,nd,yL,λi b hb=>⟨[],?_,by rw[abX];exact .nil⟩,⟨.nil,(λe he=>nomatch he),(λe he=>nomatch he)⟩⟩ (λb o hb e=>?_) λb hb=>?_
   ·rw[eG,if_neg dk,eG,if_neg dk,eG,if_pos rfl]
   ·rw[eG,if_neg dk,eG,if_pos rfl]
   ·rw[eG,if_pos rfl]
   ·intro m hm;refine dg (PL m hm) λm1 m2 m3=>?_;rw[eG,if_neg m3,eG,if_neg m2,eG,if_neg m1];rfl
   ·rw[su];show 3<=20;decide
   ·have hm:=List.mem_of_getElem? hb;have nbx:b≠x:=λz=>xqr (z ▸ hm);have nbq:b≠q:=λz=>yL (z ▸ hm);rw[ag nbx,ag nbq];exact(hq b hm).1
   ·have e1:H1 b=a_ o:=by rw[<-Bw,ag hb];exact e
    have e2:=sm _ _ e1;rw[ag hb,ag (cG e2 y9)];exact e2
   ·refine n1 b ?_;rcases List.mem_cons.mp hb with z | z
    ·subst z;cases e:H1 b with
     | none=>rfl
     | some o=>rw[sm _ _ e]at y9;cases y9
    ·exact(hq b z).2
def DB(F:List e_)(H H':Hp):Prop:=∀b o,b∉F->H b=a_ o->H' b=a_ o
theorem adN{n:Nat}(h:n<=20000):n<a9:=by rw[eM];exact wb
theorem abY(es:List Ent)(i:Nat):(cw es i).length<=es.length:=List.length_filter_le _ _
theorem NU{α β:Type}{F:α->β->Prop}{a:α}{b:β}:∀{l:List α} {r:List β},Paired F l r->F a b->Paired F (l++[a]) (r++[b])
 | _,_,.nil,h=>.cons h .nil
 | _,_,.cons g t,h=>.cons g (NU t h)
theorem c9.Sx{tn:Int}(T:c9 H a C kd tn es q qr){n:Int}(h0:0<=n)(h1:n<12):∃i:Nat,n=i/\i<12/\∃b,qr[i]?=a_ b/\eU (qr.map V.ref) n=a_ (.ref b):=by
 have hl:=T.len;obtain⟨i,rfl⟩:∃i:Nat,n=i:=⟨n.toNat,xm⟩;have hi:i<qr.length:=li;refine dQ i rfl li (aA (qr[i]) (List.getElem?_eq_getElem hi) (cX ?_));rw[List.getElem?_map,List.getElem?_eq_getElem hi];rfl
theorem Rh:∀(fs:List (Str×V)) (u:V),fs.lookup f=a_ v->(aQ f u fs).length=fs.length
 | [],_,e=>by cases e
 | (g,x)::r,u,e=>by
  by_cases h:g=f
  ·simp only[aQ,if_pos h,List.length_cons]
  ·simp only[aQ,if_neg h,List.length_cons];rw[Rh r u];have hb:(f == g)=false:=by simpa using λz=>h z.symm
   rw[List.lookup_cons,hb]at e;exact e
def RF(C:e_):Sp:=λvs H Q _=>∃a n num d kd tn es q qr,vs=[.ref a,.int n,.int num,.int d]/\c9 H a C kd tn es q qr/\0<=n/\n<12/\es.length<=20000/\
 ∀H',c9 H' a C kd (tn+1) (es++[⟨tn,n,num,d⟩]) q qr->DB (a::q::qr) H H'->Q .aH H'
theorem acZ:bf zLl zLl (aR Jp):=bz
theorem ab7(F:aU K "add" "Tray.add" Jp f fd)(cT:ke K C):ax P w K mg base ay 1 f fd zLl (RF C):=by
 refine F.ok acZ λaL A _ s H vs Q E hr h=>?_
 ·refine fj h λa n num d kd aa=>nE aa λtn es q qr aa a8=>?_;subst aa;obtain⟨T,h0,h1,hz,k⟩:=a8;refine let R1:TS:=_;⟨_,ar (dq (iK m_ n_ o_ lV (aJ cD (cc (pv 0) rfl) (pv 1)) (ab (iH (ab (cc (pv 0) rfl) (ab (iH (ab (pv 1) (ab (pv 2) (ab (pv 3) af)))) af))) af))) (pR R1 (aG (Y6 (pv 0) aq adV))),?_⟩
  refine dX (id T.obj) λdx fs ea e1 e2 e3 em el=>aO (T.Sx h0 h1) λi aa hi a8=>?_;subst aa;refine ai a8 λb hb hat=>ai (T.i7 i b hb) λvs eb rb=>?_;have vc:=List.mem_of_getElem? hb;have lv:=r_ rb;have lq:=abY es i;refine vF rfl ea cT.cl cT.tO e3 (vr rfl (rL (v:=.ref b) (ae.of T.qs) (hat) ⟨.inl ⟨rfl,_,ae.of eb⟩,vF rfl ea cT.cl cT.turn e2 (aA _ rfl (vr rfl (vr rfl ⟨(sl (n:=3)),(λst dv=>⟨(sl (n:=2)),λp hp=>?_⟩)⟩)))⟩));have yX:∀c o,H c=a_ o->c≠st:=λc o e=>cG e dv;have np:=λc o e=>cG (by rw[ag (yX c o e)];exact e) hp;have nsp:=cG ao hp;have up:∀c o,H c=a_ o->upd (upd H st (.tup [.int (i:Int),.int num,.int d])) p (.tup [.int tn,.ref st]) c=a_ o:=λc o e=>by rw[ag (np c o e),ag (yX c o e)];exact e
  have A8:=ie ea eb (by intro z;cases z);have Lm:q≠b:=λz=>T.nq (z ▸ vc);refine jU b vs (.ref p) rfl rfl (up _ _ eb) (adN li) (aA _ rfl (dY a C dx fs (jy _ rfl (by rw[ag A8];exact up _ _ ea) cT.cl cT.turn e2 ⟨_,_,rfl,rfl,dx,fs,by rw[ag A8];exact up _ _ ea,wb,?_⟩)));have pb:=cB (np b _ eb);have pa:=cB (np a _ ea);have sb:=cB (yX b _ eb);have sa:=cB (yX a _ ea);generalize Bv:upd (upd (upd (upd H st (.tup [.int (i:Int),.int num,.int d])) p (.tup [.int tn,.ref st])) b (.lst (vs++[.ref p]))) a (.ins C dx (aQ "turn" (.int (tn+1)) fs))=H2;have g0:∀c o,c≠a->c≠b->H c=a_ o->H2 c=a_ o:=λc o z1 z2 e=>by rw[<-Bv,ag z1,ag z2];exact up c o e
  have ga:H2 a=a_ (.ins C dx (aQ "turn" (.int (tn+1)) fs)):=by rw[<-Bv];exact ao
  have gb:H2 b=a_ (.lst (vs++[.ref p])):=by rw[<-Bv,ag (cB A8)];exact ao
  have gp:H2 p=a_ (.tup [.int tn,.ref st]):=by rw[<-Bv,ag pa,ag pb];exact ao
  have gs:H2 st=a_ (.tup [.int (i:Int),.int num,.int d]):=by rw[<-Bv,ag sa,ag sb,ag nsp];exact ao
  have kt:∀c xs,H c=a_ (.tup xs)->H2 c=a_ (.tup xs):=λc xs e=>g0 c _ (ie e ea (by intro z;cases z)) (ie e eb (by intro z;cases z)) e;refine k H2 ⟨⟨dx,_,ga,?_,?_,?_,λm hm=>?_,?_⟩,g0 q _ (ie T.qs ea (by intro z;cases z)) Lm T.qs,T.len,T.nd,T.nq,λj c hc=>?_,acO T.wf h0 h1⟩ λc o hc e=>g0 c o (λz=>hc (by simp[z])) (λz=>hc (by simp[z,vc])) e
  ·rw[eG,if_neg dk];exact e1
  ·rw[eG,if_pos rfl]
  ·rw[eG,if_neg dk];exact e3
  ·rw[eG,if_neg (PL m hm).2.1];exact em m hm
  ·have:=Rh fs (.int (tn+1)) e2;exact w7
  ·rw[P8]
   by_cases z:j=i
   ·subst z;rw[hb]at hc;cases hc;rw[if_pos rfl];exact aA _ gb (NU (CU (λ_ _ y=>y.keep (F:=[]) kt) rb) ⟨p,st,rfl,gp,gs⟩)
   ·rw[if_neg λy=>z (by have:(i:Int)=(j:Int):=y;lia)]
    have Lq:c≠b:=λy=>z (by
     subst y;have n1:=List.getElem?_eq_some_iff.mp hc;have n2:=List.getElem?_eq_some_iff.mp hb;refine oE n1 λp1 q1=>oE n2 λp2 q2=>?_;rcases Fz j i with y | y | y
     ·exact absurd (q1.trans q2.symm) (List.pairwise_iff_getElem.mp T.nd j i p1 p2 y)
     ·exact y
     ·exact absurd (q2.trans q1.symm) (List.pairwise_iff_getElem.mp T.nd i j p2 p1 y))
    refine(T.i7 j c hc).keep (λo e=>g0 c o (λy=>?_) Lq e) kt;refine ai (T.i7 j c hc) λnU e' _=>?_;rw[y,ea]at e';cases e'
theorem Yu{α β:Type}{F:α->β->Prop}{r:List β}(h:Paired F [] r):r=[]:=by cases h;rfl
theorem Nq:∀{vs:List V} {l:List Ent},Paired (yr H) vs l->vs≠[]->∃nU v e,vs=nU++[v]/\l.getLast?=a_ e/\yr H v e
 | _,_,.nil,h=>absurd rfl h
 | _,_,.cons (a:=v) (b:=e) g t,_=>by
  cases t with
  | nil=>exact⟨[],v,e,rfl,rfl,g⟩
  | cons h t=>
   exact iY (Nq (.cons h t) (by simp)) λnU v' e' q1 q2 q3=>⟨(v::nU),v',e',(by rw[q1];rfl),(by rw[List.getLast?_cons_cons];exact q2),q3⟩
def OW(C:e_):Sp:=λvs H Q _=>∃a n kd tn es q qr,vs=[.ref a,.int n]/\c9 H a C kd tn es q qr/\0<=n/\n<12/\es.length<=20000/\
 (yf es n.toNat=b_->Q .aH H)/\∀e st,yf es n.toNat=a_ e->H st=a_ (.tup [.int e.n,.int e.num,.int e.d])->Q (.ref st) H
theorem Ol:bf ["self","name","queue"] zLc (aR Hl):=bz
theorem Yx(F:aU K "latest" "Tray.latest" Hl f fd)(B:BT mg)(cT:ke K C):ax P w K mg base ay 1 f fd zLc (OW C):=by
 refine F.ok Ol λaL A _ s H vs Q E hr h=>?_
 ·refine fj h λa n kd tn es aa=>ic aa λq qr aa T h0 a8=>?_;subst aa;refine nK a8 λh1 hz k0 k1=>?_;refine let R1:TS:=_;⟨_,ar (bp (i:=2) Ol.nd rfl (aF rfl) (aJ cD (cc (pv 0) rfl) (pv 1))) (pR R1 (aG (bg (Hs (bo cH (bw dP rfl B.len q_ (ab (pv 2) af)) aq (a7 _)) kY (aJ cq (aJ cD (pv 2) (Du C4 aq)) aq))))),?_⟩
  refine dX (id T.obj) λdx fs ea e1 e2 e3 em el=>aO (T.Sx h0 h1) λi aa hi a8=>?_;subst aa;refine ai a8 λb hb hat=>?_;rw[fZ]at k0 k1;refine ai (T.i7 i b hb) λvs eb rb=>vF rfl ea cT.cl cT.tO e3 (vr rfl (rL (v:=.ref b) (ae.of T.qs) (hat) (vr rfl ⟨b,⟨_,rfl,.inl (ae.of eb),rfl,_,rfl,bQ (λz=>?_) λz=>?_⟩⟩)))
  ·have hv:vs=[]:=by
    injection z with z
    exact List.length_eq_zero_iff.mp li
   subst hv;refine k0 ?_;unfold yf;rw[Yu rb];rfl
  ·have hv:vs≠[]:=λy=>z (by rw[y];rfl);refine iY (Nq rb hv) λnU v e q1 q2 aa=>dC aa λp st aa q3 q4=>?_;subst aa;subst q1;refine vr rfl (aA _ rfl (rL (v:=.ref p) (ae.of eb) (PB _ _) (rT (v:=.ref st) (aB.of q3) (rfl) (k1 e st q2 q4))))
def PV(C:e_):Sp:=λvs H Q _=>∃a kd tn es q qr,vs=[.ref a]/\c9 H a C kd tn es q qr/\∀H',ah H H'->Q (.bl (decide (es=[]))) H'
theorem Z5:bf zLf zLf (aR HS):=bz
theorem aaF:(["queue"]:List Str).Nodup:=dk
theorem YS{tn:Int}(w:jJ tn es)(h:∀i,i<12->cw es i=[]):es=[]:=by
 cases es with
 | nil=>rfl
 | cons e r=>
  refine oA (w.nm e List.mem_cons_self) λh0 h1=>?_;have:=h e.n.toNat li;unfold cw at this;rw[List.filter_cons,if_pos (by simp;lia)]at this;cases this
theorem all_empty{tn:Int}(w:jJ tn es):((List.range 12).map λi=>decide (cw es i=[])).all id=decide (es=[]):=by
 by_cases h:es=[]
 ·subst h;rfl
 ·rw[decide_eq_false h,List.all_map];cases e:(List.range 12).all (id ∘ λi=>decide (cw es i=[]))with
  | false=>rfl
  | true=>
   exfalso;exact h (YS w λi hi=>by simpa using List.all_eq_true.mp e i (List.mem_range.mpr hi))
theorem Zg(F:aU K "is_empty" "Tray.is_empty" HS f fd)(B:BT mg)(cT:ke K C):ax P w K mg base ay 1 f fd zLf (PV C):=by
 refine F.ok Z5 λaL A _ s H vs Q E hr h=>?_
 ·refine fj h λa kd tn es q aa=>aO aa λqr aa T k=>?_;subst aa
  refine⟨_,aG (bg (bw (CG rfl) rfl B.all boot_all (ab (g6 (N:=["queue"]) (idx:=[]) rfl (cZ.of (by kernel_rfl)) (gF (aP _)) (nC (cc (pv 0) rfl))
   (λ_ _ _ _=>bb (i:=0) aaF rfl (aF rfl) (.inr rfl)) (λ_ _ _ _=>gZ) λ_ _ _ _=>kU cH (bw (len_K K) rfl B.len q_ (ab (pv 0) af)) aq (a7 _)) af))),?_⟩
  refine dX (id T.obj) λdx fs ea e1 e2 e3 em el=>aA _ rfl (dY a C dx fs (jy _ rfl ea cT.cl cT.tO e3 (dQ q rfl ⟨_,ae.of T.qs⟩ ?_)));have hl:=T.len;refine eN (n:=12) (λi ys H'=>H'=H/\ys=(List.range i).map λj=>V.bl (decide (cw es j=[]))) qc ⟨rfl,rfl⟩ ?_ ?_ ?_ ?_ ?_
  ·rintro i ys H' ⟨_,rfl⟩;rw[List.length_map,List.length_range];exact aw _
  ·rintro i ys H' hi ⟨rfl,_⟩;exact eO _ (V.ref (qr[i]'wg)) (ae.of T.qs) (by rw[List.getElem?_map,List.getElem?_eq_getElem wg];rfl)
  ·rintro ys H' ⟨rfl,_⟩;exact aA _ (ae.of T.qs) (by rw[List.length_map,hl];exact aw _)
  ·rintro i ys H' hi ⟨rfl,rfl⟩ y iE ⟨eH,hy⟩;subst eH;have y3:=hy _ (ae.of T.qs);rw[List.getElem?_map,List.getElem?_eq_getElem wg]at y3;cases y3;refine ai (T.i7 i _ (List.getElem?_eq_getElem wg)) λvs eb rb=>?_;dsimp only[jj,mf];rw[if_pos rfl];refine vr rfl ⟨_,⟨_,rfl,.inl (ae.of eb),rfl,rfl,?_⟩⟩;rw[List.range_succ,List.map_append]
   congr 1
   have lv:=r_ rb;simp only[List.map_cons,List.map_nil,List.cons.injEq,V.bl.injEq,and_true];refine decide_eq_decide.mpr ⟨λz=>?_,λz=>?_⟩
   ·injection z with z
    exact List.length_eq_zero_iff.mp li
   ·rw[z]at lv;rw[lv];rfl
  ·rintro ys H' ⟨rfl,rfl⟩;refine⟨by rw[List.length_map,List.length_range];decide,λp hp=>dZ p ((List.range 12).map λj=>decide (cw es j=[])) rfl (ae.of (by rw[ao,List.map_map];rfl)) ?_⟩;rw[all_empty T.wf];exact k _ (aE (ah.refl _) hp)
def tU(es:List Ent)(i:Nat):List Int:=((List.range i).filter λj=>decide (cw es j≠[])).map λ(j:Nat)=>(j:Int)
theorem NI(es:List Ent)(i:Nat):tU es (i+1)=tU es i++(if cw es i≠[] then [(i:Int)] else []):=by
 unfold tU;rw[List.range_succ,List.filter_append,List.map_append]
 congr 1
 by_cases h:cw es i≠[]
 ·rw[if_pos h,List.filter_cons_of_pos (by simpa using h)];rfl
 ·rw[if_neg h,List.filter_cons_of_neg (by simpa using h)];rfl
theorem N8(es:List Ent)(i:Nat):(tU es i).length<=i:=by
 unfold tU;rw[List.length_map];have h:=List.length_filter_le (λj=>decide (cw es j≠[])) (List.range i);rw[List.length_range]at h;exact h
def uF(es:List Ent)(n:Int):Int:=((cw es n.toNat).head?.map (·.t)).getD 0
theorem B2{tn:Int}(w:jJ tn es)(h:es.head?=a_ e):e.n∈jY es:=by
 have hm:e∈es:=by
  cases es with
  | nil=>cases h
  | cons x r=>cases h;exact List.mem_cons_self
 refine oA (w.nm e hm) λh0 h1=>zV.mpr (dQ e.n.toNat li xm λz=>?_);have:=Pl (i:=e.n.toNat) h xm;rw[z]at this;cases this
theorem abO{tn:Int}{m:Int}(w:jJ tn es)(hm:m∈jY es)(hb:∀n∈jY es,uF es m<=uF es n):(es.head?.map (·.n)).toList=[m]:=by
 refine aO (zV.mp hm) λi hi aa eA=>?_;subst aa;cases es with
 | nil=>exact absurd rfl eA
 | cons e r=>
  have h1:=hb e.n (B2 w rfl);refine oA (w.nm e List.mem_cons_self) λn0 n1=>?_
  have k1:uF (e::r) e.n=e.t:=by
   unfold uF;rw[Pl (i:=e.n.toNat) (e:=e) rfl xm];rfl
  cases q:cw (e::r) i with
  | nil=>exact absurd q eA
  | cons x l=>
   have k2:uF (e::r) (i:Int)=x.t:=by
    unfold uF;rw[fZ,q];rfl
   have hx:x∈cw (e::r) i:=by rw[q];exact List.mem_cons_self
   unfold cw at hx;refine oA (List.mem_filter.mp hx) λeV lF=>?_;have hn:x.n=(i:Int):=by simpa using lF
   rcases List.mem_cons.mp eV with z | z
   ·show [e.n]=[(i:Int)];rw[<-z,hn]
   ·have:=(List.pairwise_cons.mp w.asc).1 x z;rw[k1,k2]at h1;lia
theorem abP{tn:Int}(w:jJ tn es)(h:¬1<(jY es).length):(es.head?.map (·.n)).toList=jY es:=by
 cases es with
 | nil=>rfl
 | cons e r=>
  have hm:=B2 (e:=e) w rfl
  match q:jY (e::r)with
  | []=>rw[q]at hm;cases hm
  | [x]=>
   rw[q]at hm;rw[<-List.mem_singleton.mp hm];rfl
  | _::_::_=>
   rw[q]at h;simp at h
abbrev LP:Pos:=⟨267,35,267,71⟩
abbrev LQ:Str:=("Tray.fronts" : Str) ++ ".<locals>." ++ "<lambda>"
def He(C PT:e_):Sp:=λvs H Q _=>∃a kd tn es q qr,vs=[.ref a]/\c9 H a C kd tn es q qr/\cY PT LP LQ H/\
 ∀H' l,fk [] H H'->cY PT LP LQ H'->H l=b_->H' l=a_ (.lst ((gH kd es).map V.int))->Q (.ref l) H'
theorem Om:bf ["self","names"] zLf (aR Cu):=bz
theorem RM:(["name","queue"]:List Str).Nodup:=dk
theorem J4(h:V.str x=V.str y):x=y:=by injection h
theorem Yr{PT:e_}{ps:Array f_}(s:ah H H1){EB:Array f_}(t:t7 PT H1 H2)(hP:H1 PT=a_ (.eh ps))(Mj:H2 PT=a_ (.eh EB)):fk [] H H2:=(fk.of s).trans (fk.T6 t hP Mj)
theorem NX{f C PT c:e_}(F:uw K "fronts" "Tray.fronts" Cu f fd c)(B:BT mg)(cT:ke K C)(hC:W.CodeHd base c PT)(hB:se mg base):ax P w K mg base ay 2 f fd zLf (He C PT):=by
 refine F.ok Om λA outer s H vs Q E hr h=>?_
 ·refine fj h λa kd tn es q aa=>cC aa λqr aa T wx k=>?_;subst aa;have VE:=hr.dp
  refine let R1:TS:=_;let R2:TS:=_;⟨_,ar (tE (i:=1) (N:=["name","queue"]) (idx:=[]) Om.nd rfl rfl rfl (cZ.of (by kernel_rfl)) (xQ (aP _) (aP _)) (vD (b:=c_) rfl B.enum (ab (cc (pv 0) rfl) af))
    (λ_ _ _ _=>kX rfl (dn (bb (i:=0) RM rfl (aF rfl) (.inr rfl)) (dn (bb (i:=1) RM rfl (aF rfl) (.inr rfl)) kQ)))
    (λ_ _ _ _=>tJ (bo vV (bw (len_K K) rfl B.len q_ (ab (pv 1) af)) aq (a7 _))) λ_ _ _ _=>pv 0)
   (pR R2 (ar (bZ (PW.pt (pw_and (bo cH (cc (pv 0) rfl) cJ (a7 _)) (pw_and1 (bo vV (bw dP rfl B.len q_ (ab (pv 1) af)) aq (a7 _))))) (pR R1 (aG (bg (dy (ab (Y9 (N:=["self","name"]) (idx:=[0]) (k:=1) (px:="name") (P:=PT) rfl (by show A.depth+1+5<_;have h1:A.depth+1+3*1+5<BZ:=VE;lia) rfl B.min (pv 1) (cZ.of (by kernel_rfl)) rfl hC hB rfl rfl qc
     (λ_ _ _ _ _ _=>aJ (vX K) (aJ (Ay K) (aJ (Ay K) (afB K (pv 0) rfl) (pv 1)) aq) aq) λ_ _ _ _ _ _=>rfl) af))))) cp)
   (aG (bg (pv 1))))),?_⟩
  refine dX (id T.obj) λdx fs ea e1 e2 e3 em el=>?_;have hl:=T.len;refine vF rfl ea cT.cl cT.tO e3 ⟨q,⟨_,rfl,ae.of T.qs,eN (n:=12) (λi ys H'=>ah H H'/\ys=(tU es i).map V.int) qc ⟨ah.refl _,rfl⟩ ?_ ?_ ?_ ?_ ?_⟩⟩
  ·rintro i ys H' ⟨_,rfl⟩;rw[List.length_map];exact N8 es i
  ·rintro i ys H' hi ⟨sm,_⟩;exact eO _ (V.ref (qr[i]'wg)) (ae.of (sm _ _ T.qs)) (by rw[List.getElem?_map,List.getElem?_eq_getElem wg];rfl)
  ·rintro ys H' ⟨sm,_⟩;exact aA _ (ae.of (sm _ _ T.qs)) (by rw[List.length_map,hl];exact aw _)
  ·rintro i ys H' hi ⟨sm,rfl⟩ y iE ⟨p,x,hp,ey,eH,hx⟩;subst ey;subst eH;have eV:=hx _ (ae.of (sm _ _ T.qs));rw[List.getElem?_map,List.getElem?_eq_getElem wg]at eV;cases eV;refine ai (T.i7 i _ (List.getElem?_eq_getElem wg)) λvs eb rb=>?_;have s2:ah H (upd H' p (.tup [.int i,.ref qr[i]])):=aE sm hp;have lv:=r_ rb;refine⟨p,⟨_,rfl,aB.of ao,rfl,_,_,rfl,_,_,rfl,rfl,vr rfl ⟨_,⟨_,rfl,.inl (ae.of (s2 _ _ eb)),_,_,rfl,rfl,_,rfl,bQ (λz=>?_) λz=>?_⟩⟩⟩⟩
   ·refine vr rfl ⟨s2,?_⟩;rw[NI,if_pos (λy=>by rw[y]at lv;rw[lv]at z;exact absurd z (by simp)),List.map_append];rfl
   ·refine⟨s2,?_⟩;rw[NI,if_neg λy=>y (List.length_eq_zero_iff.mp li),List.append_nil]
  ·rintro ys H' ⟨sm,rfl⟩;have wl:=N8 es 12;refine⟨by rw[List.length_map];exact c8 (f7 w4),λl1 Bk=>?_⟩;have s1:ah H (upd H' l1 (.lst ((tU es 12).map V.int))):=aE sm Bk;generalize Bw:upd H' l1 (.lst ((tU es 12).map V.int))=H1 at s1;have eB:H1 l1=a_ (.lst ((jY es).map V.int)):=by rw[<-Bw];exact ao
   have U5:H l1=none:=by
    cases e:H l1 with
    | none=>rfl
    | some o=>rw[sm _ _ e]at Bk;cases Bk
   have uB:=oh wx s1;have T1:=T.rQ (fk.of s1);refine dX (id T1.obj) λvf qT BH f1 f2 f3 _ _=>?_;have done:(jY es).length<=12:=wl;refine aA _ rfl (dY a C vf qT (⟨_,rfl,BH,cT.cl,cT.kind,f1,rfl,(aA _ rfl ?_)⟩))
   by_cases hk:kd = "row"
   ·rw[decide_eq_true (show V.str kd=V.str "row" by rw[hk])];refine r6 (vr rfl ⟨l1,⟨_,rfl,.inl (ae.of eB),_,_,rfl,rfl,_,rfl,bQ (λz=>?_) λz=>?_⟩⟩)
    ·rw[List.length_map]at z;refine aA _ rfl (jU l1 (jY es) (uF es) rfl (ae.of eB) li uB λH2 sp wj=>ai (id uB) λps Wa _=>ai (id wj) λEB TJ _=>?_);have kp:=fk.T6 sp Wa TJ;have T2:=T1.rQ kp;have jc:=kp.k l1 _ (by simp) (λps z=>by cases z) eB;refine eT (ae.of jc) (λm hm=>?_) λm hm hb=>?_
     ·refine aO (zV.mp hm) λi hi aa eA=>?_;subst aa;refine dX (id T2.obj) λsY pK ea2 g1 g2 g3 _ _=>ai (T2.i7 i _ (List.getElem?_eq_getElem wg)) λvs eb rb=>?_;cases Lh:cw es i with
      | nil=>exact absurd Lh eA
      | cons x r=>
       rw[Lh]at rb;cases rb with
       | cons hx E3=>
        refine dC hx λp st aa q1 q2=>?_;clear hx;subst aa;refine vF rfl ea2 cT.cl cT.tO g3 (vr rfl (rL (v:=.ref (qr[i]'wg)) (ae.of T2.qs) ((cX (by rw[List.getElem?_map,List.getElem?_eq_getElem wg];rfl))) (cl1 (v:=.ref p) (j:=0) eb rfl (rT (v:=.int x.t) (aB.of q1) (cX (j:=0) rfl) ⟨?_,rfl⟩))))
        ·unfold uF;rw[fZ,Lh];rfl
     ·refine⟨(sl (n:=1)),λl hn=>k _ l ((Yr s1 sp Wa TJ).trans (fk.of (aE (ah.refl _) hn))) (oh wj (aE (ah.refl _) hn)) ?_ ?_⟩
      ·cases e:H l with
       | none=>rfl
       | some o=>
        by_cases zp:l=PT
        ·refine ai wj λps2 h2 _=>?_;rw[zp,h2]at hn;cases hn
        ·rw[sp _ _ zp (s1 _ _ e)]at hn;cases hn
      ·rw[ao];unfold gH;rw[if_pos hk,abO T.wf hm hb];rfl
    ·rw[List.length_map]at z;refine vr rfl (k H1 l1 (fk.of s1) uB U5 ?_);rw[eB];unfold gH;rw[if_pos hk,abP T.wf li]
   ·rw[decide_eq_false (show ¬V.str kd=V.str "row" from λz=>hk (J4 z))];refine dJ (dJ (vr rfl (k H1 l1 (fk.of s1) uB U5 ?_)));rw[eB];unfold gH;rw[if_neg hk]
theorem acA(n:Int)(ns:List Int):AY (.int n) (ns.map V.int)=decide (n∈ns):=by
 unfold AY
 induction ns with
 | nil=>rfl
 | cons m r ih=>
  rw[List.map_cons,List.any_cons,ih]
  by_cases h:m=n
  ·subst h;simp[oW]
  ·have:oW (.int m) (.int n)=false:=by simp[oW,h]
   rw[this,Bool.false_or];exact decide_eq_decide.mpr ⟨λz=>List.mem_cons_of_mem _ z,λz=>(List.mem_cons.mp z).resolve_left λy=>h y.symm⟩
theorem ZC(ns:List Int):(ns.map V.int).all rV=true:=by
 rw[List.all_map];exact List.all_eq_true.mpr λ_ _=>rfl
theorem Cg{tn:Int}{n:Int}(w:jJ tn es)(h:n∈gH kd es):∃i:Nat,i<12/\n=i/\∃e r,cw es i=e::r:=by
 have hw:n∈jY es:=by
  unfold gH at h
  by_cases hk:kd = "row"
  ·rw[if_pos hk]at h;cases es with
   | nil=>cases h
   | cons e r=>
    have e1:n=e.n:=by simpa using h
    rw[e1];exact B2 w rfl
  ·rw[if_neg hk]at h;exact h
 refine aO (zV.mp hw) λi hi e eA=>dQ i hi e ?_;cases q:cw es i with
 | nil=>exact absurd q eA
 | cons x r=>exact⟨x,r,rfl⟩
def QG(C PT:e_):Sp:=λvs H Q _=>∃a n kd tn es q qr,vs=[.ref a,.int n]/\c9 H a C kd tn es q qr/\cY PT LP LQ H/\n∈gH kd es/\
 ∀H' e st,(cw es n.toNat).head?=a_ e->c9 H' a C kd tn (gR es n) q qr->fk (a::q::qr) H H'->cY PT LP LQ H'->H' st=a_ (.tup [.int e.n,.int e.num,.int e.d])->Q (.ref st) H'
theorem abF:bf zLc zLc (aR IE):=bz
theorem aat{f fW fF C PT c:e_}(F:aU K "take" "Tray.take" IE f fd)(B:BT mg)(cT:ke K C)(hC:W.CodeHd base c PT)(hB:se mg base)
  (FW:aU K "is_whole" "is_whole" yj fW nR) (bW:Binds K nR ["thing"] []) (mW:mg "is_whole" = a_ (.ref fW)) (FF:uw K "fronts" "Tray.fronts" Cu fF vd c) (bF:Binds K vd zLf []) (mF:Meth K C "fronts" fF):ax P w K mg base ay 3 f fd zLc (QG C PT):=by
 have GW:ax P w K mg base ay 1 fW nR ["thing"] CL:=Hv FW B.i8 B.int B.bool;have GF:ax P w K mg base ay 2 fF vd zLf (He C PT):=NX FF B cT hC hB;refine F.ok abF λaL A _ s H vs Q E hr h=>?_
 ·refine fj h λa n kd tn es aa=>ic aa λq qr aa T wx a8=>?_;subst aa;refine oA a8 λjd k1=>?_;clear a8 h
  refine let R2:TS:=_;⟨_,ar (bZ (PW.pt (pw_or (jW (gd (cU GW (hr.mono qc) rfl mW FW.kp bW .nil aT (ab (pv 1) af))))
    (pw_or1 (bo Nr (pv 1) (jT (pv 0) cT.cl mF GF hr bF .nil aT) rfl)))) gV cp)
   (pR R2 (aG (bg (aJ cq (iK m_ PySem.F.slot_list_pop PySem.F.type_list_pop aaH (aJ cD (cc (pv 0) rfl) (pv 1)) (ab aq af)) aq)))),?_⟩
  refine dX (id T.obj) λdx fs ea e1 e2 e3 em el=>vr rfl (aA n rfl (aA _ rfl (dJ (vr rfl (vM rfl ea (em "fronts" dk) (⟨a,kd,tn,es,q,qr,rfl,T,wx,(λH1 l kp uB hn hl=>⟨l,⟨_,rfl,.inl (ae.of hl),rfl,ZC _,_,rfl,?_⟩⟩)⟩))))));rw[if_pos rfl,acA];refine JG (λz=>absurd jd (of_decide_eq_false z)) λ_=>?_
  ·have T1:=T.rQ kp;refine aO (Cg T.wf jd) λi hi aa a8=>?_;subst aa;refine yK a8 λe r he=>dX (id T1.obj) λvf qT BH f1 f2 f3 fm fl=>?_;have ajg:=T1.len;have hb:qr[i]?=a_ (qr[i]'wg):=List.getElem?_eq_getElem wg;refine ai (T1.i7 i _ hb) λvs eb rb=>?_;have vc:=List.mem_of_getElem? hb;generalize qr[i]'wg=b at hb eb vc;rw[he]at rb;cases rb with
   | cons hx E3=>
    refine dC hx λp st aa q1 q2=>?_;clear hx;subst aa
    rename_i nU
    refine aA _ rfl (dY a C vf qT (jy _ rfl BH cT.cl cT.tO f3 (vr rfl (rL (v:=.ref b) (ae.of T1.qs) (cX (by rw[List.getElem?_map,hb];rfl)) ⟨.inl ⟨rfl,_,ae.of eb⟩,?_⟩))));refine⟨b,_,0,0,(.ref p),rfl,rfl,eb,qc,qc,(by simp[G0]),rfl,?_⟩;have npb:=ie q1 eb (by intro z;cases z);have nsb:=ie q2 eb (by intro z;cases z);refine rT (v:=.ref st) (aB.of (by rw[ag npb];exact q1)) (cX (j:=1) rfl) ?_
    have ka:DB (a::q::qr) H1 (upd H1 b (.lst nU)):=λc o hc ec=>by
     rw[ag λz=>hc (by simp[z,vc])];exact ec
    have kt:∀c xs,H1 c=a_ (.tup xs)->upd H1 b (.lst nU) c=a_ (.tup xs):=λc xs ec=>by rw[ag (ie ec eb (by intro z;cases z))];exact ec
    have A8:=ie BH eb (by intro z;cases z);have Lm:q≠b:=λz=>T1.nq (z ▸ vc)
    refine k1 _ e st (by rw[fZ,he];rfl) ⟨⟨vf,qT,by rw[ag A8];exact BH,f1,f2,f3,fm,fl⟩,by rw[ag Lm];exact T1.qs,T1.len,T1.nd,T1.nq,λj c hc=>?_,abn T1.wf _⟩
     ⟨λc o hc ht ec=>ka c o hc (kp.k c o (by simp) ht ec),λc h=>kp.t c (by
      by_cases z:c=b
      ·rw[z,ao]at h;cases h
      ·rwa[ag z]at h)⟩ (zR uB ka T1.kinds) (by rw[ag nsb];exact q2)
    rw[aac]
    by_cases zj:j=i
    ·subst zj;rw[hb]at hc;cases hc;rw[if_pos rfl,he];exact aA nU ao (CU (λ_ _ y=>y.keep (F:=[]) kt) E3)
    ·rw[if_neg λy=>zj (by have:(i:Int)=(j:Int):=y;lia)]
     have Lq:c≠b:=λy=>zj (by
      subst y;refine oE (List.getElem?_eq_some_iff.mp hc) λp1 q1=>?_;refine oE (List.getElem?_eq_some_iff.mp hb) λp2 q2=>?_;rcases Fz j i with y | y | y
      ·exact absurd (q1.trans q2.symm) (List.pairwise_iff_getElem.mp T1.nd j i p1 p2 y)
      ·exact y
      ·exact absurd (q2.trans q1.symm) (List.pairwise_iff_getElem.mp T1.nd i j p2 p1 y))
     exact(T1.i7 j c hc).keep (λo e=>by rw[ag Lq];exact e) kt
def OS(C:e_):Sp:=λvs H Q _=>∃kd,vs=[.str kd]/\(kd = "row"\/kd = "name"\/kd = "none")/\∀H' x q qr,c9 H' x C kd 0 [] q qr->DB [] H H'->(∀b∈x::q::qr,H b=b_)->Q (.ref x) H'
theorem Z4:bf ["kind"] ["kind"] (aR HR):=bz
theorem acy{x:Str}(h:x = "row"\/x = "name"\/x = "none"):AY (.str x) [.str "row",.str "name",.str "none"]=true:=by
 rcases h with rfl | rfl | rfl <;> decide +kernel
theorem Zf{f fI C aK:e_}{fd jt:lW}(F:aU K "tray_of" "tray_of" HR f fd)(B:BT mg)(cT:ke K C)(M:Mk K C fI)(FI:aU K "__init__" "Tray.__init__" Ed fI jt)(bI:Binds K jt ["self","kind"] [])(mT:mg "Tray" = a_ (.ref C))(mN:∃u,mg "NAMES" = a_ u/\RelV (.int 12) u)
  (mK:mg "KINDS" = a_ (.ref aK)) (hK:∀H:Hp,aB K H aK [.str "row",.str "name",.str "none"]):ax P w K mg base ay 3 f fd ["kind"] (OS C):=by
 have GI:ax P w K mg base ay 1 fI jt ["self","kind"] (Sn C):=ae7 FI B cT mN;refine F.ok Z4 λaL A _ s H vs Q E hr h=>?_
 ·refine aO h λx aa hk k=>?_;subst aa;refine let R2:TS:=_;⟨_,ar (bZ (PW.pt (pw_or (jW (gd (bw iV rfl B.i8 je (ab (pv 0) (ab (oB (v:=.ty "str") rfl B.str boot_str rfl) af))))) (pw_or1 (bo Nr (pv 0) (gx (v:=.ref aK) rfl mK rfl) rfl)))) gV cp) (pR R2 (aG (bg (Ak M GI hr rfl mT bI .nil aT (ab (pv 0) af))))),?_⟩
  refine vr rfl (dY _ _ _ _ (gL _ rfl (oS (H:=H) (v:=.str x) (T:="str") rfl) rfl (oO (H:=H) (v:=.str x) (T:="str") rfl qc) (aA _ rfl (dJ (vr rfl ⟨aK,⟨_,rfl,.inr (hK H),rfl,rfl,_,rfl,?_⟩⟩)))));rw[if_pos rfl,acy hk];refine dJ (vr rfl λo dx no jL ne=>⟨o,dx,x,rfl,ao,(λH' q qr T1 kp fr=>⟨rfl,k H' o q qr T1 (λb u _ e=>kp b u (cG e no) ?_) λb hb=>?_⟩)⟩)
  ·rw[ag (cG e no),ag (cG e jL)];exact e
  ·rcases List.mem_cons.mp hb with z | z
   ·rw[z];exact no
   ·have:=fr b z;have nbo:b≠o:=λe=>by rw[e,ao]at this;cases this
    rw[ag nbo]at this;have nbd:b≠dx:=λe=>by rw[e,ao]at this;cases this
    rw[ag nbd]at this;exact this
end TL
open L2
namespace TS
section
variable{M:Model}{A:h_}{E:f_->g_->Prop}{s:g_}
theorem abm{σ:Type}{Q:PUnit->σ->Prop}{x st:σ}(h:Q ⟨⟩ x):wpS M A E s (set x) Q st:=aM ⟨rfl,h⟩
theorem f9{arr:Array Keyed}{i:Nat}{x:Keyed}{Q:Keyed->SortSt->Prop}{st:SortSt}(h:arr[i]?=a_ x)(q:Q x st):wpS M A E s (elem' arr i) Q st:=by
 rw[elem'_eq,h];exact aS q
theorem xW{n:String}{Q:PUnit->SortSt->Prop}{st:SortSt}(h:Q ⟨⟩ st):wpS M A E s (liftM (rule n)) Q st:=wpS_lift (vv ⟨rfl,h⟩)
theorem cE{α:Type}{c:Prop}[Decidable c]{m m':StateT SortSt Sem α}{Q:α->SortSt->Prop}{st:SortSt}(h1:c->wpS M A E s m Q st)(h2:¬c->wpS M A E s m' Q st):wpS M A E s (if c then m else m') Q st:=by
 by_cases h:c
 ·rw[if_pos h];exact h1 h
 ·rw[if_neg h];exact h2 h
structure Sm(st ak:SortSt):Prop where
 k:kindOf ak=kindOf st
 a:arrOf ak=arrOf st
 p:b8 ak=b8 st
 f:nB ak=nB st
theorem Co{f:SortSt->SortSt}{Q:PUnit->SortSt->Prop}{st UD:SortSt}(h0:Sm UD st)(hf:Sm st (f st))(q:∀ak,Sm UD ak->Q ⟨⟩ ak):wpS M A E s (modify f) Q st:=vt (q _ ⟨hf.k.trans h0.k,hf.a.trans h0.a,hf.p.trans h0.p,hf.f.trans h0.f⟩)
theorem Cp{β:Type}{Q:β->SortSt->Prop}{st:SortSt}{c:Prop}[Decidable c]{X Y J:StateT SortSt Sem β}(P:Prop)(h1:c->(P->wpS M A E s J Q st)->wpS M A E s X Q st)(h2:¬c->P/\Y=J)(t:P->wpS M A E s J Q st):wpS M A E s (if c then X else Y) Q st:=cE (λh=>h1 h t) λh=>by rw[(h2 h).2];exact t (h2 h).1
theorem N7{β:Type}{Q:β->SortSt->Prop}{st:SortSt}{c:Prop}[Decidable c]{X Y:StateT SortSt Sem β}{J:Nat->StateT SortSt Sem β}(h1:(∀v,wpS M A E s (J v) Q st)->wpS M A E s X Q st)(h2:(∀v,wpS M A E s (J v) Q st)->wpS M A E s Y Q st)(t:∀v,wpS M A E s (J v) Q st):wpS M A E s (if c then X else Y) Q st:=cE (λ_=>h1 t) λ_=>h2 t
theorem lp{γ:Type}{n:Nat}(P:Nat->Nat->Nat->Prop)(D:Nat->Nat->Prop){F:Nat->Option γ×Nat×Nat->StateT SortSt Sem (ForInStep (Option γ×Nat×Nat))}{R:Option γ×Nat×Nat->SortSt->Prop}{st:SortSt}{x y:Nat}(h0:P 0 x y)(hn:∀l o,P n l o->D l o)(q:∀l o,D l o->R (b_,l,o) st)
  (hF:∀i l o (R:ForInStep (Option γ×Nat×Nat)->SortSt->Prop),i<n->P i l o->(D l o->R (.done (b_,l,o)) st)->(∀l' o',P (i+1) l' o'->R (.yield (b_,l',o')) st)->wpS M A E s (F i (b_,l,o)) R st):wpS M A E s (forIn [:n] (b_,x,y) F) R st:=by
 refine nv (I:=λi c ak=>ak=st/\∃l o,c=(b_,l,o)/\P i l o) ?_ ?_ ⟨rfl,x,y,rfl,h0⟩
 ·rintro i c ak _ hi ⟨rfl,l,o,rfl,p⟩;exact hF i l o _ hi p (q l o) λl' o' p'=>⟨rfl,l',o',rfl,p'⟩
 ·rintro c ak ⟨rfl,l,o,rfl,p⟩;exact q l o (hn l o (by rw[MY (aP _)]at p;exact p))
end
abbrev Up(rk:Keyed->Int)(l:List Keyed):Prop:=l.Pairwise λx y=>rk x<=rk y
abbrev Le(rk:Keyed->Int)(l l':List Keyed):Prop:=∀x∈l,∀y∈l',rk x<=rk y
def Et:=Bool->Keyed->Array Keyed->Nat->Nat->Nat->StateT SortSt Sem (Option Nat)
def bey(left:Bool)(key:Keyed)(arr:Array Keyed)(base i:Nat):StateT SortSt Sem (Option Bool):=do
 let x <-elem' arr (base+i)
 if left=c_ then lt' x key
 else do
  let r <-lt' key x
  pure (r.map λx=>!x)
def vJ(g:Et):Prop:=∀(M:Model) (A:h_) (E:f_->g_->Prop) (s:g_) (O:Prop) (left:Bool) (key:Keyed) (arr:Array Keyed) (base n hint k0:Nat) (st:SortSt) (Q:Option Nat->SortSt->Prop),hint<n->(O->k0<=n)->
 (∀i,i<n->∀Q:Option Bool->SortSt->Prop,(∀b,(O->b=decide (i<k0))->Q (a_ b) st)->wpS M A E s (bey left key arr base i) Q st)->(∀k,k<=n->(O->k=k0)->Q (a_ k) st)->wpS M A E s (g left key arr base n hint) Q st
def o7(M:Model)(A:h_)(E:f_->g_->Prop)(s:g_)(κ:jx)(a0:List Keyed)(O:Prop)(rk:Keyed->Int):Prop:=∀(st:SortSt) (x y:Keyed) (Q:Option Bool->SortSt->Prop),kindOf st=κ->x∈a0->y∈a0->(∀b,(O->b=decide (rk x<rk y))->Q (a_ b) st)->wpS M A E s (lt' x y) Q st
def Of(a0:List Keyed)(a:Array Keyed):Prop:=∀x∈a.toList,x∈a0
theorem Of.at'{a0:List Keyed}{a:Array Keyed}(h:Of a0 a){i:Nat}(hi:i<a.size):∃x,a[i]?=a_ x/\x∈a0:=⟨a[i],by simp[hi],h _ (by simp)⟩
theorem IU{α:Type}{p:α->Bool}:∀{l:List α},l.Pairwise (λx y=>p y=c_->p x=c_)->∃k,k<=l.length/\∀i (h:i<l.length),p l[i]=decide (i<k)
 | [],_=>⟨0,aw _,λi h=>absurd h (pO _)⟩
 | x::l,h=>by
  rw[List.pairwise_cons]at h;cases e:p x with
  | false=>
   refine⟨0,aP _,λi hi=>?_⟩;cases i with
   | zero=>simpa using e
   | succ i=>
    cases z:p (l[i]'(by simpa using hi))with
    | false=>simpa using z
    | true=>exact absurd (h.1 _ (List.getElem_mem _) z) (by rw[e];decide)
  | true=>
   obtain⟨k,hk,hq⟩:=IU h.2;refine⟨k+1,by simpa using hk,λi hi=>?_⟩;cases i with
   | zero=>simpa using e
   | succ i=>simpa using hq i (by simpa using hi)
def pq(rk:Keyed->Int)(left:Bool)(key x:Keyed):Bool:=if left=c_ then decide (rk x<rk key) else !decide (rk key<rk x)
theorem RH{rk:Keyed->Int}{left:Bool}{key x:Keyed}:(pq rk left key x=c_->rk x<=rk key)/\(pq rk left key x=d_->rk key<=rk x):=by
 unfold pq;cases left <;> simp <;> lia
theorem Eh{M:Model}{κ:jx}{a0:List Keyed}{O:Prop}{rk:Keyed->Int}{g:Et}(G:vJ g)(C:o7 M A E s κ a0 O rk){left:Bool}{key:Keyed}{arr:Array Keyed}{base n hint:Nat}{st:SortSt}{Q:Option Nat->SortSt->Prop}(hn:base+n<=arr.size)(hκ:kindOf st=κ)(hU:Of a0 arr)(hk:key∈a0)(hh:hint<n)(so:O->Up rk ((arr.toList.drop base).take n))
  (q:∀k,k<=n->(O->(∀x∈(arr.toList.drop base).take k,rk x<=rk key)/\∀x∈((arr.toList.drop base).take n).drop k,rk key<=rk x)->Q (a_ k) st):wpS M A E s (g left key arr base n hint) Q st:=by
 have ll:((arr.toList.drop base).take n).length=n:=by rw[List.length_take,List.length_drop,dj];lia
 obtain⟨k0,h2⟩:∃k0,O->k0<=n/\∀i (h:i<n),pq rk left key (((arr.toList.drop base).take n)[i]' li)=decide (i<k0):=by
  by_cases hO:O
  ·obtain⟨k0,h1,h2⟩:=IU (p:=pq rk left key) ((so hO).imp λ{x y} h=>by unfold pq;cases left <;> simp <;> lia);exact⟨k0,λ_=>⟨li,λi h=>h2 i li⟩⟩
  ·exact⟨0,λz=>absurd z hO⟩
 refine G M A E s O left key arr base n hint k0 st Q hh (λo=>(h2 o).1) (λi hi Q' q'=>?_) λk uX e=>q k uX λo=>?_
 ·obtain⟨x,hx,ux⟩:=hU.at' (show base+i<arr.size by lia)
  have ex:((arr.toList.drop base).take n)[i]' li=x:=by
   have:arr.toList[base+i]?=a_ x:=by simpa using hx
   rw[List.getElem_take,List.getElem_drop];exact(List.getElem?_eq_some_iff.mp this).2
  refine aN (f9 hx ?_);have h3:=λo=>(h2 o).2 i hi;rw[ex]at h3;unfold pq at h3;cases left
  ·exact aN (C st _ _ _ hκ hk ux λb hb=>aS (q' _ λo=>by rw[<-h3 o,hb o];rfl))
  ·exact C st _ _ _ hκ ux hk λb hb=>q' b λo=>by rw[<-h3 o,hb o];rfl
 ·have ek:=e o;subst ek;refine⟨λx hx=>?_,λx hx=>?_⟩
  ·rw[show (arr.toList.drop base).take k=((arr.toList.drop base).take n).take k by rw[List.take_take,nZ uX]]at hx;obtain⟨i,hi,rfl⟩:=List.mem_take_iff_getElem.mp hx;exact RH.1 (by rw[(h2 o).2 i li];exact decide_eq_true li)
  ·obtain⟨i,hi,rfl⟩:=List.mem_drop_iff_getElem.mp hx;exact RH.2 (by rw[(h2 o).2 (k+i) li];exact decide_eq_false li)
def Ur:=Array Keyed->Array Keyed->StateT SortSt Sem (Array Keyed)
abbrev UP(O:Prop)(rk:Keyed->Int)(a b o:Array Keyed):Prop:=o.toList.Perm (a.toList++b.toList)/\(O->Up rk o.toList)
def DA(m:Ur):Prop:=∀(M:Model) (A:h_) (E:f_->g_->Prop) (s:g_) (κ:jx) (a0:List Keyed) (O:Prop) (rk:Keyed->Int),o7 M A E s κ a0 O rk->∀(a b:Array Keyed) (st:SortSt) (Q:Array Keyed->SortSt->Prop),kindOf st=κ->Of a0 a->Of a0 b->1<=a.size->1<=b.size->(O->Up rk a.toList)->(O->Up rk b.toList)->
 (O->∀x,b[0]?=a_ x->∀y∈a.toList,rk x<=rk y)->(O->∀x,a[a.size-1]?=a_ x->∀y∈b.toList,rk y<=rk x)->(∀r ak,Sm st ak->UP O rk a b r->Q r ak)->wpS M A E s (m a b) Q st
theorem RI(p q r t:List Keyed):((p++q)++(r++t)).Perm ((p++r)++(q++t)):=by
 rw[List.append_assoc,List.append_assoc];exact List.Perm.append_left _ (by rw[<-List.append_assoc,<-List.append_assoc];exact List.Perm.append_right _ List.perm_append_comm)
theorem qA(a:Array Keyed)(i k:Nat):(a.extract i (i+k)).toList=(a.toList.drop i).take k:=by simp[List.extract_eq_drop_take]
theorem SN(a:Array Keyed)(i:Nat):(a.extract i).toList=a.toList.drop i:=by
 simp;exact List.take_of_length_le (by simp)
section
variable{O:Prop}{rk:Keyed->Int}{a b o:Array Keyed}{i j k:Nat}{x y:Keyed}
structure MI(O:Prop)(rk:Keyed->Int)(a b o:Array Keyed)(i j:Nat):Prop where
 p:o.toList.Perm (a.toList.take i++b.toList.take j)
 s:O->Up rk o.toList/\Le rk o.toList (a.toList.drop i)/\Le rk o.toList (b.toList.drop j)
theorem MI.swap(h:MI O rk a b o i j):MI O rk b a o j i:=⟨h.p.trans List.perm_append_comm,λz=>⟨(h.s z).1,(h.s z).2.2,(h.s z).2.1⟩⟩
theorem mi0{o x y z:List Keyed}(h:o.Perm (x++y)):(o++z).Perm ((x++z)++y):=(List.Perm.append_right _ h).trans (by rw[List.append_assoc,List.append_assoc];exact List.Perm.append_left _ List.perm_append_comm)
theorem ji{l:List Keyed}(h:Up rk l)(k:Nat):Up rk (l.take k)/\Up rk (l.drop k)/\Le rk (l.take k) (l.drop k):=by
 have h:Up rk (l.take k++l.drop k):=by rw[List.take_append_drop];exact h
 exact⟨(List.pairwise_append.mp h).1,(List.pairwise_append.mp h).2.1,(List.pairwise_append.mp h).2.2⟩
theorem le_app{l l' m:List Keyed}(h:Le rk l m)(h':Le rk l' m):Le rk (l++l') m:=λx hx=>(List.mem_append.mp hx).elim (h x) (h' x)
theorem MI.add(h:MI O rk a b o i j)(ha:O->Up rk a.toList)(k:Nat)(hk:O->Le rk ((a.toList.drop i).take k) (b.toList.drop j)):MI O rk a b (o++a.extract i (i+k)) (i+k) j:=by
 refine⟨?_,λz=>?_⟩
 ·rw[qW,qA,List.take_add];exact mi0 h.p
 ·have h1:=h.s z;have h2:=ji (ji (ha z) i).2.1 k;rw[qW,qA,<-List.drop_drop];exact⟨List.pairwise_append.mpr ⟨h1.1,h2.1,λx hx y hy=>h1.2.1 x hx y (List.mem_of_mem_take hy)⟩,le_app (λx hx y hy=>h1.2.1 x hx y (List.mem_of_mem_drop hy)) h2.2.2,le_app h1.2.2 (hk z)⟩
theorem tL(h:a[i]?=a_ x):a.toList.drop i=x::a.toList.drop (i+1):=by
 obtain⟨hi,e⟩:=List.getElem?_eq_some_iff.mp (show a.toList[i]?=a_ x by simpa using h);rw[List.drop_eq_getElem_cons hi,e]
theorem C0(ha:Up rk a.toList)(h:a[i]?=a_ x):∀y∈a.toList.drop i,rk x<=rk y:=λy hy=>by
 have h1:=(ji ha i).2.1;rw[tL h]at h1 hy;rcases List.mem_cons.mp hy with e | e
 ·rw[e];exact zP _
 ·exact(List.pairwise_cons.mp h1).1 y e
theorem MI.one(h:MI O rk a b o i j)(ha:O->Up rk a.toList)(hx:a[i]?=a_ x)(hk:O->∀y∈b.toList.drop j,rk x<=rk y):MI O rk a b (o.push x) (i+1) j:=by
 have h1:=h.add ha 1 λz u hu=>by rw[tL hx]at hu;rw[show u=x by simpa using hu];exact hk z
 have e:o++a.extract i (i+1)=o.push x:=M5.mp (by rw[qW,qA,tL hx,FA];rfl);rwa[e]at h1
theorem MI.fin(h:MI O rk a b o i j)(ha:O->Up rk a.toList)(hb:O->Up rk b.toList)(hx:O->Le rk (a.toList.drop i) (b.toList.drop j)):UP O rk a b (o++a.extract i++b.extract j):=by
 unfold UP;rw[qW,qW,SN,SN];refine⟨?_,λz=>?_⟩
 ·rw[List.append_assoc];refine(List.Perm.append_right _ h.p).trans ((RI _ _ _ _).trans ?_);rw[List.take_append_drop,List.take_append_drop]
 ·have h1:=h.s z;exact List.pairwise_append.mpr ⟨List.pairwise_append.mpr ⟨h1.1,(ji (ha z) i).2.1,h1.2.1⟩,(ji (hb z) j).2.1,le_app h1.2.2 (hx z)⟩
theorem MI.Kh(h:MI O rk a b o i j)(ha:O->Up rk a.toList)(hb:O->Up rk b.toList)(hx:O->Le rk (b.toList.drop j) (a.toList.drop i)):UP O rk a b (o++b.extract j++a.extract i):=⟨(h.swap.fin hb ha hx).1.trans List.perm_append_comm,(h.swap.fin hb ha hx).2⟩
structure MR(O:Prop)(rk:Keyed->Int)(a b o:Array Keyed)(i j:Nat):Prop where
 p:o.toList.Perm (a.toList.drop i++b.toList.drop j)
 s:O->Up rk o.toList.reverse/\Le rk (a.toList.take i) o.toList.reverse/\Le rk (b.toList.take j) o.toList.reverse
theorem MR.swap(h:MR O rk a b o i j):MR O rk b a o j i:=⟨h.p.trans List.perm_append_comm,λz=>⟨(h.s z).1,(h.s z).2.2,(h.s z).2.1⟩⟩
theorem Rt{l l' m:List Keyed}(h:Le rk m l)(h':Le rk m l'):Le rk m (l++l'):=λx hx y hy=>(List.mem_append.mp hy).elim (h x hx y) (h' x hx y)
theorem MR.add(h:MR O rk a b o i j)(ha:O->Up rk a.toList)(hk:k<=i)(hl:O->Le rk (b.toList.take j) ((a.toList.take i).drop k)):MR O rk a b (o++(a.extract k i).reverse) k j:=by
 have e:=List.take_append_drop (i-k) (a.toList.drop k);rw[List.drop_drop,MQ hk]at e;have e2:=qA a k (i-k);rw[MQ hk]at e2;refine⟨?_,λz=>?_⟩
 ·rw[qW,Fv,e2];refine(List.Perm.append_left _ (List.reverse_perm _)).trans (List.perm_append_comm.trans ((List.Perm.append_left _ h.p).trans ?_));rw[<-List.append_assoc,e]
 ·have h1:=h.s z;have h2:=ji (ji (ha z) i).1 k;rw[List.take_take,nZ hk]at h2;rw[qW,Fv,e2,List.reverse_append,List.reverse_reverse,<-List.drop_take];exact⟨List.pairwise_append.mpr ⟨h2.2.1,h1.1,λx hx=>h1.2.1 x (List.mem_of_mem_drop hx)⟩,Rt h2.2.2 λx hx=>h1.2.1 x (by rw[show a.toList.take k=(a.toList.take i).take k by rw[List.take_take,nZ hk]]at hx;exact List.mem_of_mem_take hx),Rt (hl z) h1.2.2⟩
theorem Jl(hi:1<=i)(hx:a[i-1]?=a_ x):(a.toList.take i).drop (i-1)=[x]:=by
 have h1:=tL hx;rw[List.drop_take,h1,show i-(i-1)=1 by lia];rfl
theorem CY(ha:Up rk a.toList)(hi:1<=i)(hx:a[i-1]?=a_ x):∀y∈a.toList.take i,rk y<=rk x:=λy hy=>by
 have h1:=ji (ji ha i).1 (i-1);rw[Jl hi hx]at h1;rw[<-List.take_append_drop (i-1) (a.toList.take i),Jl hi hx]at hy;rcases List.mem_append.mp hy with z | z
 ·exact h1.2.2 y z x (List.mem_singleton.mpr rfl)
 ·rw[List.mem_singleton.mp z];exact zP _
theorem MR.one(h:MR O rk a b o i j)(ha:O->Up rk a.toList)(hi:1<=i)(hx:a[i-1]?=a_ x)(hk:O->∀y∈b.toList.take j,rk y<=rk x):MR O rk a b (o.push x) (i-1) j:=by
 have h1:=h.add ha (Nat.sub_le i 1) λz u hu v hv=>by rw[Jl hi hx]at hv;rw[List.mem_singleton.mp hv];exact hk z u hu
 have e2:=qA a (i-1) 1;rw[Nat.sub_add_cancel hi]at e2;have e:o++(a.extract (i-1) i).reverse=o.push x:=M5.mp (by rw[qW,Fv,e2,tL hx,FA];rfl);rwa[e]at h1
theorem MR.fin(h:MR O rk a b o i j)(ha:O->Up rk a.toList)(hb:O->Up rk b.toList)(hx:O->Le rk (a.toList.take i) (b.toList.take j)):UP O rk a b (a.extract 0 i++b.extract 0 j++o.reverse):=by
 unfold UP;have e1:=qA a 0 i;have e2:=qA b 0 j;rw[vm]at e1 e2;rw[qW,qW,Fv,e1,e2,List.drop_zero,List.drop_zero];refine⟨?_,λz=>?_⟩
 ·refine(List.Perm.append_left _ ((List.reverse_perm _).trans h.p)).trans ((RI _ _ _ _).trans ?_);rw[List.take_append_drop,List.take_append_drop]
 ·have h1:=h.s z;exact List.pairwise_append.mpr ⟨List.pairwise_append.mpr ⟨(ji (ha z) i).1,(ji (hb z) j).1,hx z⟩,h1.1,le_app h1.2.1 h1.2.2⟩
theorem MR.Kh(h:MR O rk a b o i j)(ha:O->Up rk a.toList)(hb:O->Up rk b.toList)(hx:O->Le rk (b.toList.take j) (a.toList.take i)):UP O rk a b (b.extract 0 j++a.extract 0 i++o.reverse):=⟨(h.swap.fin hb ha hx).1.trans List.perm_append_comm,(h.swap.fin hb ha hx).2⟩
theorem SQ(o a:Array Keyed)(i:Nat):o++a.extract i (i+0)=o:=by
 simp;exact xG _ _
theorem SO(o a:Array Keyed)(i:Nat):o++(a.extract i i).reverse=o:=by
 simp;exact xG _ _
end
structure G(κ:jx)(a0:List Keyed)(pd:Array (Nat×Nat×Nat))(st:SortSt):Prop where
 k:kindOf st=κ
 f:nB st=b_
 a:(arrOf st).toList.Perm a0
 p:b8 st=pd
theorem G.size{κ:jx}{a0:List Keyed}{pd:Array (Nat×Nat×Nat)}{st:SortSt}(g:G κ a0 pd st):(arrOf st).size=a0.length:=by rw[<-dj,g.a.length_eq]
theorem G.of{κ:jx}{a0:List Keyed}{pd:Array (Nat×Nat×Nat)}{st:SortSt}(g:G κ a0 pd st):Of a0 (arrOf st):=λ_ h=>g.a.mem_iff.mp h
def seg(a:Array Keyed)(i n:Nat):List Keyed:=(a.toList.drop i).take n
def iy(a a':Array Keyed)(i n:Nat):Prop:=a'.toList=a.toList.take i++seg a' i n++a.toList.drop (i+n)
def NG:Prop:=∀(M:Model) (A:h_) (E:f_->g_->Prop) (s:g_) (κ:jx) (a0:List Keyed) (O:Prop) (rk:Keyed->Int),o7 M A E s κ a0 O rk->∀(i sa na pa nb pb:Nat) (pd:Array (Nat×Nat×Nat)) (st:SortSt) (Q:Bool->SortSt->Prop),G κ a0 pd st->pd[i]?=a_ (sa,na,pa)->pd[i+1]?=a_ (sa+na,nb,pb)->1<=na->1<=nb->sa+na+nb<=a0.length->(O->Up rk (seg (arrOf st) sa na)/\Up rk (seg (arrOf st) (sa+na) nb))->
 (∀ak,G κ a0 ((pd.setIfInBounds i (sa,na+nb,pa)).eraseIdxIfInBounds (i+1)) ak->(O->iy (arrOf st) (arrOf ak) sa (na+nb)/\Up rk (seg (arrOf ak) sa (na+nb)))->Q c_ ak)->wpS M A E s (mergeAt' i) Q st
theorem Dk{a a':Array Keyed}{m:List Keyed}{i n:Nat}(e:a'.toList=a.toList.take i++m++a.toList.drop (i+n))(hm:m.length=n)(h:i+n<=a.size):iy a a' i n/\seg a' i n=m:=by
 have s:seg a' i n=m:=by
  unfold seg;have lP:(a.toList.take i).length=i:=by rw[List.length_take,dj];lia
  rw[e,List.append_assoc,List.drop_append,List.drop_eq_nil_of_le li,lP,oa,List.nil_append,List.drop_zero,List.take_append,hm,oa,List.take_zero,List.append_nil,List.take_of_length_le li]
 exact⟨by unfold iy;rw[s];exact e,s⟩
theorem p9{a:Array Keyed}{i n:Nat}(h:i+n<=a.size):(seg a i n).length=n:=by unfold seg;rw[List.length_take,List.length_drop,dj];lia
theorem z9(a:Array Keyed)(i n:Nat):iy a a i n:=by
 unfold iy seg;rw[List.append_assoc,<-List.drop_drop,List.take_append_drop,List.take_append_drop]
theorem HQ(a:Array Keyed)(i n m:Nat):seg a i (n+m)=seg a i n++seg a (i+n) m:=by unfold seg;rw[List.take_add,List.drop_drop]
theorem seg_at{a:Array Keyed}{i n j:Nat}{x:Keyed}(h:a[i+j]?=a_ x)(hj:j<n):(seg a i n)[j]?=a_ x:=by
 unfold seg;rw[List.getElem?_take,if_pos hj,List.getElem?_drop];simpa using h
theorem OQ{rk:Keyed->Int}{l:List Keyed}{x:Keyed}(h:Up rk l)(e:l[0]?=a_ x):∀y∈l,rk x<=rk y:=by
 cases l with
 | nil=>cases e
 | cons z l=>
  cases e;exact λy hy=>(List.mem_cons.mp hy).elim (λz=>by rw[z];exact zP _) ((List.pairwise_cons.mp h).1 y)
theorem PJ{rk:Keyed->Int}{l:List Keyed}{x:Keyed}(h:Up rk l)(e:l[l.length-1]?=a_ x):∀y∈l,rk y<=rk x:=λy hy=>by
 obtain⟨i,hi,rfl⟩:=List.getElem_of_mem hy;obtain⟨h1,h2⟩:=List.getElem?_eq_some_iff.mp e
 by_cases z:i=l.length-1
 ·subst z;rw[h2];exact zP _
 ·rw[<-h2];exact List.pairwise_iff_getElem.mp h i _ hi h1 li
theorem Zp{rk:Keyed->Int}{p q b d r:List Keyed}{x z:Keyed}(h1:Up rk (p++q))(h2:Up rk (b++d))(hr:Up rk r)(pr:r.Perm (q++b))(hx:∀y∈p,rk y<=rk x)(hq:∀y∈q,rk x<=rk y)(hb:∀y∈b++d,rk x<=rk y)(hz:∀y∈q,rk y<=rk z)(hd:∀y∈d,rk z<=rk y):Up rk (p++r++d):=by
 have h1':=List.pairwise_append.mp h1;have Wi:=List.pairwise_append.mp h2;refine List.pairwise_append.mpr ⟨List.pairwise_append.mpr ⟨h1'.1,hr,λu hu v hv=>?_⟩,Wi.2.1,λu hu v hv=>?_⟩
 ·rcases List.mem_append.mp (pr.mem_iff.mp hv)with z | z
  ·exact kE (hx u hu) (hq v z)
  ·exact kE (hx u hu) (hb v (List.mem_append.mpr (.inl z)))
 ·rcases List.mem_append.mp hu with hu | hu
  ·exact kE (hx u hu) (hb v (List.mem_append.mpr (.inr hv)))
  ·rcases List.mem_append.mp (pr.mem_iff.mp hu)with y | y
   ·exact kE (hz u y) (hd v hv)
   ·exact Wi.2.2 u y v hv
theorem P9{sa:Nat}:∀(l:List Keyed) (n0:Nat) (arr:Array Keyed),sa+n0+l.length<=arr.size->∀i,(List.foldl (λ(a:Array Keyed) (x:Keyed×Nat)=>match x with | (p,j)=>a.setIfInBounds (sa+j) p) arr (l.zipIdx n0))[i]?=if sa+n0<=i/\i<sa+n0+l.length then l[i-(sa+n0)]? else arr[i]?
 | [],n0,arr,h,i=>by
  rw[if_neg (by simp)];rfl
 | x::l,n0,arr,h,i=>by
  have hl:(x::l).length=l.length+1:=rfl;rw[List.zipIdx_cons,List.foldl_cons,P9 l (n0+1) _ (by rw[Array.size_setIfInBounds];lia)]
  by_cases e:i=sa+n0
  ·subst e;rw[if_neg li,if_pos li,oa,Array.getElem?_setIfInBounds_self_of_lt li];rfl
  ·by_cases c:sa+(n0+1)<=i/\i<sa+(n0+1)+l.length
   ·rw[if_pos c,if_pos li,show i-(sa+n0)=(i-(sa+(n0+1)))+1 by lia,List.getElem?_cons_succ]
   ·rw[if_neg c,if_neg li,Array.getElem?_setIfInBounds_ne li]
theorem aad{sa:Nat}{l:List Keyed}{arr:Array Keyed}(h:sa+l.length<=arr.size):(List.foldl (λ(a:Array Keyed) (x:Keyed×Nat)=>match x with | (p,j)=>a.setIfInBounds (sa+j) p) arr l.zipIdx).toList=arr.toList.take sa++l++arr.toList.drop (sa+l.length):=by
 apply List.ext_getElem?;intro i;have:=P9 l 0 arr (sa:=sa) om i;rw[pN,this];have hs:arr.toList.length=arr.size:=dj;have ht:(arr.toList.take sa).length=sa:=by rw[List.length_take];lia
 by_cases c:i<sa
 ·rw[if_neg li,List.append_assoc,List.getElem?_append_left li,List.getElem?_take,if_pos c];simp
 ·by_cases d:i<sa+l.length
  ·rw[if_pos li,List.append_assoc,List.getElem?_append_right li,ht,List.getElem?_append_left li];rfl
  ·rw[if_neg li,List.getElem?_append_right (by rw[List.length_append];lia),List.length_append,ht,List.getElem?_drop];rw[show sa+l.length+(i-(sa+l.length))=i by lia];simp
theorem Ud{γ S α β δ ε:Type}{m n:Nat}{P:S->Prop}{R:Nat->α->β->δ->ε->Prop}{G:Nat->γ->S->Prop}{f:α->β->δ->ε->γ}(h:∀w a b d e s,w<n->P s->R w a b d e->G w (f a b d e) s):∀w c s,m<=w->w<n->(P s/\∃a b d e,c=f a b d e/\R w a b d e)->G w c s:=by
 rintro w c s _ l ⟨p,a,b,d,e,rfl,r⟩;exact h _ _ _ _ _ _ l p r
theorem Uc{γ S α β δ ε κ:Type}{m n:Nat}{s0:S}{R:Nat->α->β->δ->ε->κ->Prop}{G:Nat->γ->S->Prop}{f:α->β->δ->ε->κ->γ}(h:∀w a b d e k,w<n->R w a b d e k->G w (f a b d e k) s0):∀w c s,m<=w->w<n->(s=s0/\∃a b d e k,c=f a b d e k/\R w a b d e k)->G w c s:=by
 rintro w c s _ l ⟨rfl,a,b,d,e,k,rfl,r⟩;exact h _ _ _ _ _ _ l r
theorem T'{γ S α β δ ε κ ι:Type}{m n:Nat}{P:S->Prop}{R:Nat->α->β->δ->ε->κ->ι->Prop}{G:Nat->γ->S->Prop}{f:α->β->δ->ε->κ->ι->γ}(h:∀w a b d e k i s,w<n->P s->R w a b d e k i->G w (f a b d e k i) s):∀w c s,m<=w->w<n->(P s/\∃a b d e k i,c=f a b d e k i/\R w a b d e k i)->G w c s:=by
 rintro w c s _ l ⟨p,a,b,d,e,k,i,rfl,r⟩;exact h _ _ _ _ _ _ _ _ l p r
theorem ir{γ S ρ ο:Type}{P:S->Prop}{T:ρ->Prop}{G:γ->S->Prop}{g:ρ->ο->γ}(h:∀s r o,P s->T r->G (g r o) s):∀c s,(P s/\∃r o,c=g r o/\T r)->G c s:=by
 rintro c s ⟨p,r,o,rfl,t⟩;exact h _ _ _ p t
theorem Uh{γ S α β δ ε κ ρ ο:Type}{s0:S}{R:α->β->δ->ε->κ->Prop}{T:ρ->Prop}{G:γ->S->Prop}{f:α->β->δ->ε->κ->γ}{g:ρ->ο->γ}(h:∀a b d e k,R a b d e k->G (f a b d e k) s0)(h2:∀r o,T r->G (g r o) s0):∀c s,(s=s0/\((∃a b d e k,c=f a b d e k/\R a b d e k)\/∃r o,c=g r o/\T r))->G c s:=by
 rintro c s ⟨rfl,⟨a,b,d,e,k,rfl,r⟩ | ⟨r,o,rfl,t⟩⟩
 ·exact h _ _ _ _ _ r
 ·exact h2 _ _ t
theorem Ug{γ S α β δ ε κ ι ρ ο:Type}{P:S->Prop}{R:α->β->δ->ε->κ->ι->Prop}{T:ρ->Prop}{G:γ->S->Prop}{f:α->β->δ->ε->κ->ι->γ}{g:ρ->ο->γ}(h:∀a b d e k i s,P s->R a b d e k i->G (f a b d e k i) s)(h2:∀s r o,P s->T r->G (g r o) s):∀c s,(P s/\((∃a b d e k i,c=f a b d e k i/\R a b d e k i)\/∃r o,c=g r o/\T r))->G c s:=by
 rintro c s ⟨p,⟨a,b,d,e,k,i,rfl,r⟩ | ⟨r,o,rfl,t⟩⟩
 ·exact h _ _ _ _ _ _ _ p r
 ·exact h2 _ _ _ p t
end TS
open L2
namespace TS
section
variable{M:Model}{A:h_}{E:f_->g_->Prop}{s:g_}{κ:jx}{a0:List Keyed}{O:Prop}{rk:Keyed->Int}{g:Et}{left:Bool}{key:Keyed}{a:Array Keyed}{i:Nat}{st:SortSt}{Q:Option Nat->SortSt->Prop}
theorem SI(G:vJ g)(C:o7 M A E s κ a0 O rk)(hκ:kindOf st=κ)(hU:Of a0 a)(hk:key∈a0)(ua:O->Up rk a.toList)(hi:i<a.size)(q:∀k,k<=a.size-i->(O->(∀x∈(a.toList.drop i).take k,rk x<=rk key)/\∀x∈a.toList.drop (i+k),rk key<=rk x)->Q (a_ k) st):wpS M A E s (g left key a i (a.size-i) 0) Q st:=
 Eh G C li hκ hU hk li (λo=>(ji (ji (ua o) i).2.1 _).1) λk hk p=>q k hk λo=>⟨(p o).1,λx hx=>(p o).2 x (by rw[List.take_of_length_le (by simp),List.drop_drop];exact hx)⟩
theorem SJ(G:vJ g)(C:o7 M A E s κ a0 O rk)(hκ:kindOf st=κ)(hU:Of a0 a)(hk:key∈a0)(ua:O->Up rk a.toList)(h1:1<=i)(hi:i<=a.size)(q:∀k,k<=i->(O->(∀x∈a.toList.take k,rk x<=rk key)/\∀x∈(a.toList.take i).drop k,rk key<=rk x)->Q (a_ k) st):wpS M A E s (g left key a 0 i (i-1)) Q st:=
 Eh G C li hκ hU hk li (λo=>by rw[List.drop_zero];exact(ji (ua o) i).1) λk hk p=>q k hk λo=>by have:=p o;rw[List.drop_zero]at this;exact this
end
theorem T7{i n:Nat}(h:i+1<n)(k:¬i+1+1=n):i+1+1<n:=li
theorem T8{i n:Nat}(h:i<n)(k:¬i+1=n):i+1<n:=li
theorem YG:∃(g:Et) (ml mh:Ur),vJ g/\(vJ g->DA ml)/\(vJ g->DA mh)/\(vJ g->DA ml->DA mh->NG):=by
 apply NA;apply NA;apply NA;refine⟨?a,?b,?c,?d⟩
 case d=>
  intro G ML MH M A E s κ a0 O rk C i sa na pa nb pb pd st Q g h1 h2 LN Bi hsz up q;have hs:=g.size;have U:=g.of;obtain⟨x,hx,ux⟩:=U.at' (show sa+na<(arrOf st).size by lia);obtain⟨z,hz,uz⟩:=U.at' (show sa+(na-1)<(arrOf st).size by lia);have lA:=p9 (a:=arrOf st) (i:=sa) (n:=na) li;have lB:=p9 (a:=arrOf st) (i:=sa+na) (n:=nb) li;have xB:=λo=>OQ (up o).2 (seg_at (j:=0) hx li);have zA:=λo=>PJ (up o).1 (by rw[lA];exact seg_at hz li)
  have q0:(O->Le rk (seg (arrOf st) sa na) (seg (arrOf st) (sa+na) nb))->∀ak,kindOf ak=kindOf st->nB ak=nB st->arrOf ak=arrOf st->b8 ak=(pd.setIfInBounds i (sa,na+nb,pa)).eraseIdxIfInBounds (i+1)->Q c_ ak:=λhl ak k1 k2 k3 k4=>q ak ⟨k1.trans g.k,k2.trans g.f,by rw[k3];exact g.a,k4⟩ λo=>by
   rw[k3,HQ];exact⟨z9 _ _ _,List.pairwise_append.mpr ⟨(up o).1,(up o).2,hl o⟩⟩
  have gp:=g.p;rw[<-gp]at h1 h2 q q0;refine aN (wpS_get ?_);simp only[b8]at h1 h2;rw[h1,h2];refine aN (abm (aN (f9 hx (aN (Eh G C li g.k U ux li (λo=>(up o).1) λk hk p=>cE (λe=>?_) λe=>?_)))))
  ·have kz:k=na:=by
    have:=gu e;lia
   subst kz;exact aS (q0 (λo u hu v hv=>kE ((p o).1 u hu) (xB o v hv)) _ rfl rfl rfl rfl)
  have nk:¬na-k=0:=λy=>e (beq_iff_eq.mpr y);have sM:(arrOf st)[sa+k+(na-k)-1]?=a_ z:=by rw[show sa+k+(na-k)-1=sa+(na-1) by lia];exact hz
  refine aN (f9 sM (aN (Eh G C li g.k U uz li (λo=>(up o).2) λk2 qQ p2=>cE (λe'=>?_) λe'=>?_)))
  ·have kz:=gu e';subst kz;exact aS (q0 (λo u hu v hv=>kE (zA o u hu) ((p2 o).2 v hv)) _ rfl rfl rfl rfl)
  have nk2:¬k2=0:=λy=>e' (beq_iff_eq.mpr y)
  have ea:((arrOf st).extract (sa+k) (sa+na)).toList=(seg (arrOf st) sa na).drop k:=by
   unfold seg;rw[show sa+na=(sa+k)+(na-k) by lia,qA,List.drop_take,List.drop_drop]
  have eb:((arrOf st).extract (sa+na) (sa+na+k2)).toList=(seg (arrOf st) (sa+na) nb).take k2:=by
   unfold seg;rw[qA,List.take_take,nZ qQ]
  have p2:O->(∀u∈(seg (arrOf st) (sa+na) nb).take k2,rk u<=rk z)/\∀u∈(seg (arrOf st) (sa+na) nb).drop k2,rk z<=rk u:=λo=>⟨by rw[<-eb,qA];exact(p2 o).1,(p2 o).2⟩;have p1:O->(∀u∈(seg (arrOf st) sa na).take k,rk u<=rk x)/\∀u∈(seg (arrOf st) sa na).drop k,rk x<=rk u:=λo=>⟨by unfold seg;rw[List.take_take,nZ hk];exact(p o).1,(p o).2⟩;have Ux:Of a0 ((arrOf st).extract (sa+k) (sa+na)):=λy hy=>U y (by rw[ea]at hy;exact List.mem_of_mem_drop (List.mem_of_mem_take (List.mem_of_mem_drop hy)));have Uy:Of a0 ((arrOf st).extract (sa+na) (sa+na+k2)):=λy hy=>U y (by rw[eb]at hy;exact List.mem_of_mem_drop (List.mem_of_mem_take (List.mem_of_mem_take hy)));have zx:((arrOf st).extract (sa+k) (sa+na)).size=na-k:=by rw[Xo];lia
  have zy:((arrOf st).extract (sa+na) (sa+na+k2)).size=k2:=by rw[Xo];lia
  have UA:O->Up rk ((arrOf st).extract (sa+k) (sa+na)).toList:=λo=>by rw[ea];exact(ji (up o).1 k).2.1
  have Uz:O->Up rk ((arrOf st).extract (sa+na) (sa+na+k2)).toList:=λo=>by rw[eb];exact(ji (up o).2 k2).1
  have f1:O->∀x,((arrOf st).extract (sa+na) (sa+na+k2))[0]?=a_ x->∀y∈((arrOf st).extract (sa+k) (sa+na)).toList,rk x<=rk y:=λo x' e y hy=>by
   rw[Xc,if_pos li,Nat.add_zero,hx]at e;cases e;rw[ea]at hy;exact(p1 o).2 y hy
  have f2:O->∀x,((arrOf st).extract (sa+k) (sa+na))[((arrOf st).extract (sa+k) (sa+na)).size-1]?=a_ x->∀y∈((arrOf st).extract (sa+na) (sa+na+k2)).toList,rk y<=rk x:=λo x' e y hy=>by
   rw[zx,Xc,if_pos li,show sa+k+(na-k-1)=sa+(na-1) by lia,hz]at e;cases e;rw[eb]at hy;exact(p2 o).1 y hy
  have fin:∀(r:Array Keyed) (ak:SortSt),kindOf ak=kindOf st->arrOf ak=arrOf st->nB ak=nB st->b8 ak=((b8 st).setIfInBounds i (sa,na+nb,pa)).eraseIdxIfInBounds (i+1)->UP O rk ((arrOf st).extract (sa+k) (sa+na)) ((arrOf st).extract (sa+na) (sa+na+k2)) r->
    ∀du:SortSt,kindOf du=kindOf ak->nB du=nB ak->b8 du=b8 ak->arrOf du=List.foldl (λ(a:Array Keyed) (x:Keyed×Nat)=>match x with | (p,j)=>a.setIfInBounds (sa+k+j) p) (arrOf ak) r.toList.zipIdx->Q (nB du).isNone du:=by
   intro r ak k1 k2' k3 k4 pr du s1 s2 s3 s4;obtain⟨pr,ur⟩:=pr;rw[ea,eb]at pr
   have lr:r.toList.length=na-k+k2:=by
    rw[pr.length_eq,List.length_append,List.length_drop,List.length_take,lA,lB];lia
   have e0:(arrOf du).toList=(arrOf st).toList.take sa++((seg (arrOf st) sa na).take k++r.toList++(seg (arrOf st) (sa+na) nb).drop k2)++(arrOf st).toList.drop (sa+(na+nb)):=by
    have h0:(arrOf st).toList.length=a0.length:=by rw[dj,hs]
    rw[s4,k2',aad (by rw[lr];lia),lr];unfold seg
    have e1:(arrOf st).toList.take (sa+k)=(arrOf st).toList.take sa++(((arrOf st).toList.drop sa).take na).take k:=by
     rw[List.take_take,nZ hk,List.take_add]
    have e2:(arrOf st).toList.drop (sa+k+(na-k+k2))=(((arrOf st).toList.drop (sa+na)).take nb).drop k2++(arrOf st).toList.drop (sa+(na+nb)):=by
     rw[show sa+k+(na-k+k2)=sa+na+k2 by lia,List.drop_take,List.drop_drop];have:=List.take_append_drop (nb-k2) ((arrOf st).toList.drop (sa+na+k2));rw[List.drop_drop,show sa+na+k2+(nb-k2)=sa+(na+nb) by lia]at this;exact this.symm
    rw[e1,e2];simp only[List.append_assoc]
   have mo:=Dk e0 (by rw[List.length_append,List.length_append,List.length_take,List.length_drop,lA,lB,lr];lia) li;rw[s2,k3,g.f];refine q du ⟨s1.trans (k1.trans g.k),s2.trans (k3.trans g.f),List.Perm.trans ?_ g.a,s3.trans k4⟩ λo=>⟨mo.1,?_⟩
   ·rw[e0];have w:=z9 (arrOf st) sa (na+nb);unfold iy at w;rw[HQ]at w
    conv=>rhs;rw[w]
    refine List.Perm.append_right _ (List.Perm.append_left _ ((((List.Perm.append_left _ pr).append_right _)).trans ?_));rw[List.append_assoc,List.append_assoc,<-List.append_assoc,List.take_append_drop,List.take_append_drop]
   ·rw[mo.2];exact Zp (x:=x) (z:=z) (by rw[List.take_append_drop];exact(up o).1) (by rw[List.take_append_drop];exact(up o).2) (ur o) pr (p1 o).1 (p1 o).2 (by rw[List.take_append_drop];exact xB o) (λy hy=>zA o y (List.mem_of_mem_drop hy)) (p2 o).2
  exact cE (λ_=>aN (ML M A E s κ a0 O rk C _ _ _ _ g.k Ux Uy li li UA Uz f1 f2 λr ak sm pr=>aN (vt (aN (wpS_get (aS (fin r ak sm.k sm.a sm.f sm.p pr _ rfl rfl rfl rfl))))))) λ_=>aN (MH M A E s κ a0 O rk C _ _ _ _ g.k Ux Uy li li UA Uz f1 f2 λr ak sm pr=>aN (vt (aN (wpS_get (aS (fin r ak sm.k sm.a sm.f sm.p pr _ rfl rfl rfl rfl))))))
 case a=>
  intro M A E s O left key arr base n hint k0 st Q hh hk hb q;refine aN (hb hint hh _ λb sU=>?_);cases b
  ·refine aN (lp (λi l o=>O->¬hint-l<k0/\l<o/\l<=hint/\i+1<=o) (λl o=>O->¬hint-l<k0/\l<=hint/\(o ≥ hint+1\/hint-o<k0)) (λo=>⟨of_decide_eq_false (sU o).symm,li⟩) (λl o p z=>by have:=p z;lia) (λl o d=>aN (lp (λi l h=>h<=n/\(O->l<=k0/\k0<=h/\h-l<=n-i)) (λ_ h=>h<=n/\(O->h=k0)) ⟨li,λo=>?_⟩ (λl h p=>⟨p.1,λo=>by have:=p.2 o;lia⟩) (λl h p=>aS (q h p.1 p.2)) λi l h R hi p r1 r2=>cE (λe=>aS (r1 ⟨p.1,λo=>by have:=p.2 o;have:l ≥ h:=e;lia⟩)) λe=>aN (hb _ (by have:¬l ≥ h:=e;have:=p.1;show l+(h-l)/2<n;lia) _ λc hc=>?_))) λi l o R hi p r1 r2=>cE (λe=>aS (r1 λz=>by have:=p z;have:o ≥ hint+1:=e;lia)) λe=>aN (hb _ (by show hint-o<n;lia) _ λc hc=>?_))
   ·have:=d o;have:=hk o;show hint+1-min _ (hint+1)<=k0/\k0<=hint-l/\hint-l-(hint+1-min _ (hint+1))<=n-0;lia
   ·have e:¬l ≥ h:=e;cases c
    ·exact aS (r2 _ _ ⟨by have:=p.1;show l+(h-l)/2<=n;lia,λo=>by have:=p.2 o;have:=of_decide_eq_false (hc o).symm;show l<=k0/\k0<=l+(h-l)/2/\l+(h-l)/2-l<=n-(i+1);lia⟩)
    ·exact aS (r2 _ _ ⟨p.1,λo=>by have:=p.2 o;have:=of_decide_eq_true (hc o).symm;show l+(h-l)/2+1<=k0/\k0<=h/\h-(l+(h-l)/2+1)<=n-(i+1);lia⟩)
   ·have e:¬o ≥ hint+1:=e;cases c
    ·exact aS (r2 _ _ λz=>by have:=p z;have:=of_decide_eq_false (hc z).symm;show ¬hint-o<k0/\o<2*o+1/\o<=hint/\i+1+1<=2*o+1;lia)
    ·exact aS (r1 λz=>by have:=p z;have:=of_decide_eq_true (hc z).symm;lia)
  ·refine aN (lp (λi l o=>O->hint+l<k0/\l<o/\i+1<=o) (λl o=>O->hint+l<k0/\l<o/\(o ≥ n-hint\/¬hint+o<k0)) (λo=>⟨of_decide_eq_true (sU o).symm,li⟩) (λl o p z=>by have:=p z;lia) (λl o d=>aN (lp (λi l h=>h<=n/\(O->l<=k0/\k0<=h/\h-l<=n-i)) (λ_ h=>h<=n/\(O->h=k0)) ⟨li,λo=>?_⟩ (λl h p=>⟨p.1,λo=>by have:=p.2 o;lia⟩) (λl h p=>aS (q h p.1 p.2)) λi l h R hi p r1 r2=>cE (λe=>aS (r1 ⟨p.1,λo=>by have:=p.2 o;have:l ≥ h:=e;lia⟩)) λe=>aN (hb _ (by have:¬l ≥ h:=e;have:=p.1;show l+(h-l)/2<n;lia) _ λc hc=>?_))) λi l o R hi p r1 r2=>cE (λe=>aS (r1 λz=>by have:=p z;have:o ≥ n-hint:=e;lia)) λe=>aN (hb _ (by have:¬o ≥ n-hint:=e;show hint+o<n;lia) _ λc hc=>?_))
   ·have:=d o;have:=hk o;show hint+l+1<=k0/\k0<=hint+min _ (n-hint)/\hint+min _ (n-hint)-(hint+l+1)<=n-0;lia
   ·have e:¬l ≥ h:=e;cases c
    ·exact aS (r2 _ _ ⟨by have:=p.1;show l+(h-l)/2<=n;lia,λo=>by have:=p.2 o;have:=of_decide_eq_false (hc o).symm;show l<=k0/\k0<=l+(h-l)/2/\l+(h-l)/2-l<=n-(i+1);lia⟩)
    ·exact aS (r2 _ _ ⟨p.1,λo=>by have:=p.2 o;have:=of_decide_eq_true (hc o).symm;show l+(h-l)/2+1<=k0/\k0<=h/\h-(l+(h-l)/2+1)<=n-(i+1);lia⟩)
   ·have e:¬o ≥ n-hint:=e;cases c
    ·exact aS (r1 λz=>by have:=p z;have:=of_decide_eq_false (hc z).symm;lia)
    ·exact aS (r2 _ _ λz=>by have:=p z;have:=of_decide_eq_true (hc z).symm;show hint+o<k0/\o<2*o+1/\i+1+1<=2*o+1;lia)
 case b=>
  intro G M A E s κ a0 O rk C a b st Q hκ Ua Ub ha hb ua ub f1 f2 q;have wI:Sm st st:=⟨rfl,rfl,rfl,rfl⟩;obtain⟨b0,sU,_⟩:=Ub.at' hb;obtain⟨az,V3,_⟩:=Ua.at' (show a.size-1<a.size by lia);have m0:MI O rk a b #[b0] 0 1:=(MI.one (a:=b) (b:=a) (o:=#[]) (i:=0) (j:=0) ⟨List.Perm.refl _,λ_=>⟨.nil,λx hx=>(by cases hx),λx hx=>(by cases hx)⟩⟩ ub sU λo=>f1 o b0 sU).swap;have dB:∀{o i j},MI O rk a b o i j->j=b.size->UP O rk a b (o++a.extract i++b.extract j):=λh e=>h.fin ua ub λ_ x _ y hy=>by rw[List.drop_eq_nil_of_le (by rw[e];simp)]at hy;cases hy
  have dA:∀{o i j},MI O rk a b o i j->i=a.size->UP O rk a b (o++a.extract i++b.extract j):=λh e=>h.fin ua ub λ_ x hx=>by rw[List.drop_eq_nil_of_le (by rw[e];simp)]at hx;cases hx
  have ls:∀{o i j},MI O rk a b o i j->i+1=a.size->UP O rk a b (o++b.extract j++a.extract i):=λ{o i j} h e=>h.Kh ua ub λz x hx y hy=>by
   rw[tL (show a[i]?=a_ az by rw[show i=a.size-1 by lia];exact V3),e,List.drop_eq_nil_of_le (by simp)]at hy;rw[List.mem_singleton.mp hy];exact f2 z az V3 x (List.mem_of_mem_drop hx)
  refine aN (xW (aN (f9 sU (cE (λe=>aS (q _ _ wI (dB m0 (gu e)))) λe1=>cE (λe=>aS (q _ _ wI (ls m0 (gu e)))) λe2=>?_))));have nh:¬1=b.size:=λz=>e1 (beq_iff_eq.mpr z);have Fc:¬0+1=a.size:=λz=>e2 (beq_iff_eq.mpr z)
  let I1:Nat->Option (Array Keyed)×Array Keyed×Nat×Nat×Nat->SortSt->Prop:=λi c ak=>Sm st ak/\∃out ia ib mg,c=(b_,out,ia,ib,mg)/\MI O rk a b out ia ib/\ia+1<a.size/\ib<b.size/\i+1<=ia+ib
  let Q1:Option (Array Keyed)×Array Keyed×Nat×Nat×Nat->SortSt->Prop:=λc ak=>Sm st ak/\∃(r:Array Keyed) (o:_),c=(a_ r,o)/\UP O rk a b r
  refine aN (wpS_get (aN (rD (nv (I:=I1) (Q:=Q1) ?_ ?_ ⟨wI,_,_,_,_,rfl,m0,li,li,li⟩) ?_)))
  ·refine Ud λw out ia ib mg dM hw sm r=>?_;have m1:=r.1;have h1:=r.2.1;have h2:=r.2.2.1;have h3:=r.2.2.2
   let I2:Nat->Option (Array Keyed)×Array Keyed×Nat×Nat×Nat×Nat->SortSt->Prop:=λj c ak=>ak=dM/\∃out ia ib ac bc,c=(b_,out,ia,ib,ac,bc)/\MI O rk a b out ia ib/\ia+1<a.size/\ib<b.size/\w+1+j<=ia+ib
   let Q2:Option (Array Keyed)×Array Keyed×Nat×Nat×Nat×Nat->SortSt->Prop:=λc ak=>ak=dM/\((∃out ia ib ac bc,c=(b_,out,ia,ib,ac,bc)/\MI O rk a b out ia ib/\ia+1<a.size/\ib<b.size/\w+2<=ia+ib)\/∃(r:Array Keyed) (o:_),c=(a_ r,o)/\UP O rk a b r)
   refine aN (rD (nv (I:=I2) (Q:=Q2) ?_ ?_ ⟨rfl,_,_,_,_,_,rfl,m1,h1,h2,h3⟩) ?_)
   ·refine Uc λj out ia ib ac bc hj r=>?_;have m2:=r.1;have h1:=r.2.1;have h2:=r.2.2.1;have h3:=r.2.2.2;obtain⟨y,y1,Uy⟩:=Ub.at' h2;obtain⟨x,x1,Ux⟩:=Ua.at' (Xw h1);refine aN (f9 y1 (aN (f9 x1 (aN (C _ _ _ _ (sm.k.trans hκ) Uy Ux λc hc=>?_)))));cases c
    ·have m3:=m2.one ua x1 λo z hz=>kE (xS.mp (of_decide_eq_false (hc o).symm)) (C0 (ub o) y1 z hz);refine aN (f9 x1 (cE (λe=>aS ⟨rfl,.inr ⟨_,_,rfl,ls m3 (gu e)⟩⟩) λe=>?_));have p1:=T7 h1 λz=>e (beq_iff_eq.mpr z);exact cE (λ_=>aS ⟨rfl,.inl ⟨_,_,_,_,_,rfl,m3,p1,h2,li⟩⟩) λ_=>aS ⟨rfl,_,_,_,_,_,rfl,m3,p1,h2,li⟩
    ·have m3:=(m2.swap.one ub y1 λo z hz=>kE (Int.le_of_lt (of_decide_eq_true (hc o).symm)) (C0 (ua o) x1 z hz)).swap;refine aN (f9 y1 (cE (λe=>aS ⟨rfl,.inr ⟨_,_,rfl,dB m3 (gu e)⟩⟩) λe=>?_));have p1:=T8 h2 λz=>e (beq_iff_eq.mpr z);exact cE (λ_=>aS ⟨rfl,.inl ⟨_,_,_,_,_,rfl,m3,h1,p1,li⟩⟩) λ_=>aS ⟨rfl,_,_,_,_,_,rfl,m3,h1,p1,li⟩
   ·rintro c du ⟨rfl,out,ia,ib,ac,bc,rfl,m2,h1,h2,h3⟩;exact⟨rfl,.inl ⟨_,_,_,_,_,rfl,m2,h1,h2,li⟩⟩
   refine Uh (λout ia ib ac bc r=>?_) λr o g=>aS ⟨sm,_,_,rfl,g⟩;have m2:=r.1;have h1:=r.2.1;have h2:=r.2.2.1;have h3:=r.2.2.2
   let I3:Nat->Option (Array Keyed)×Array Keyed×Nat×Nat×Nat×Nat×Nat->SortSt->Prop:=λj c ak=>Sm st ak/\∃out ia ib mg ac bc,c=(b_,out,ia,ib,mg,ac,bc)/\MI O rk a b out ia ib/\ia+1<a.size/\ib<b.size/\w+2<=ia+ib
   let Q3:Option (Array Keyed)×Array Keyed×Nat×Nat×Nat×Nat×Nat->SortSt->Prop:=λc ak=>Sm st ak/\((∃out ia ib mg ac bc,c=(b_,out,ia,ib,mg,ac,bc)/\MI O rk a b out ia ib/\ia+1<a.size/\ib<b.size/\w+2<=ia+ib)\/∃(r:Array Keyed) (o:_),c=(a_ r,o)/\UP O rk a b r)
   refine aN (xW (aN (rD (nv (I:=I3) (Q:=Q3) ?_ ?_ ⟨sm,_,_,_,_,_,_,rfl,m2,h1,h2,h3⟩) ?_)))
   ·refine T' λj out ia ib mg ac bc gD hj km r=>?_;have m3:=r.1;have h1:=r.2.1;have h2:=r.2.2.1;have h3:=r.2.2.2;obtain⟨y,y1,Uy⟩:=Ub.at' h2;apply N7
    case h1=>
     intro T;generalize (b_,out,ia,ib,mg,ac,bc).snd.snd.snd.snd.fst-1=v;exact T v
    case h2=>exact λT=>T _
    case t=>
     intro mg2;refine aN (Co km ⟨rfl,rfl,rfl,rfl⟩ λwH gm=>aN (f9 y1 (aN (SI G C (gm.k.trans hκ) Ua Uy ua li λk hk p=>?_))));have m4:=m3.add ua k λo u hu v hv=>kE ((p o).1 u hu) (C0 (ub o) y1 v hv);apply Cp (P:=ia+k+1<a.size)
     case h1=>
      intro zd T;refine cE (λe=>aS ⟨gm,.inr ⟨_,_,rfl,ls m4 (gu e)⟩⟩) λe=>cE (λe=>aS ⟨gm,.inr ⟨_,_,rfl,dA m4 (gu e)⟩⟩) λe'=>T ?_;have n1:¬ia+k+1=a.size:=λz=>e (beq_iff_eq.mpr z);have n2:¬ia+k=a.size:=λz=>e' (beq_iff_eq.mpr z);lia
     case h2=>
      intro zd;have kz:=Xa zd;have e:out++a.extract ia (ia+k)=out:=by rw[kz];exact SQ _ _ _
      refine⟨by rw[kz];exact h1,?_⟩;rw[e,kz];rfl
     case t=>
      intro h5;have m6:=(m4.swap.one ub y1 λo=>(p o).2).swap;refine aN (f9 y1 (cE (λe=>aS ⟨gm,.inr ⟨_,_,rfl,dB m6 (gu e)⟩⟩) λe1=>?_));have n3:=T8 h2 λz=>e1 (beq_iff_eq.mpr z);obtain⟨x,x1,Ux⟩:=Ua.at' (Xw h5);refine aN (f9 x1 (aN (SI G C (gm.k.trans hκ) Ub Ux ub n3 λk2 qQ p2=>?_)));have m7:=(m6.swap.add ub k2 λo u hu v hv=>kE ((p2 o).1 u hu) (C0 (ua o) x1 v hv)).swap;apply Cp (P:=ib+1+k2<b.size)
      case h1=>
       intro hq T;refine cE (λe=>aS ⟨gm,.inr ⟨_,_,rfl,dB m7 (gu e)⟩⟩) λe3=>T ?_;have n4:¬ib+1+k2=b.size:=λz=>e3 (beq_iff_eq.mpr z);lia
      case h2=>
       intro hq;have kz:=Xa hq;have e:∀o:Array Keyed,o++b.extract (ib+1) (ib+1+k2)=o:=λo=>by rw[kz];exact SQ _ _ _
       refine⟨li,?_⟩;rw[e,kz]
      case t=>
       intro h8;have m9:=m7.one ua x1 λo=>(p2 o).2;refine aN (f9 x1 (cE (λe=>aS ⟨gm,.inr ⟨_,_,rfl,ls m9 (gu e)⟩⟩) λe4=>?_));have h9:=T7 h5 λz=>e4 (beq_iff_eq.mpr z);have w9:w+2<=ia+k+1+(ib+1+k2):=li;exact cE (λ_=>aS ⟨gm,.inl ⟨_,_,_,_,_,_,rfl,m9,h9,h8,w9⟩⟩) λ_=>aS ⟨gm,_,_,_,_,_,_,rfl,m9,h9,h8,w9⟩
   ·rintro c gD ⟨km,out,ia,ib,mg,ac,bc,rfl,m3,h1,h2,h3⟩;exact⟨km,.inl ⟨_,_,_,_,_,_,rfl,m3,h1,h2,h3⟩⟩
   exact Ug (λout ia ib mg ac bc gD km r=>aN (Co km ⟨rfl,rfl,rfl,rfl⟩ λwH gm=>aS ⟨gm,_,_,_,_,rfl,r⟩)) λgD r o km g=>aS ⟨km,_,_,rfl,g⟩
  ·rintro c ak ⟨sm,out,ia,ib,mg,rfl,_,h1,h2,h3⟩;lia
  ·exact ir λak r o sm g=>aS (q _ _ sm g)
 case c=>
  intro G M A E s κ a0 O rk C a b st Q hκ Ua Ub ha hb ua ub f1 f2 q;have wI:Sm st st:=⟨rfl,rfl,rfl,rfl⟩;obtain⟨az,hz,_⟩:=Ua.at' (show a.size-1<a.size by lia);obtain⟨b0,sU,_⟩:=Ub.at' hb;have m0:MR O rk a b #[az] (a.size-1) b.size:=MR.one (a:=a) (b:=b) (o:=#[]) (i:=a.size) (j:=b.size) ⟨by rw[List.drop_eq_nil_of_le (by simp),List.drop_eq_nil_of_le (by simp)];exact List.Perm.refl _,λ_=>⟨.nil,λx _ y hy=>(by cases hy),λx _ y hy=>(by cases hy)⟩⟩ ua ha hz λo y hy=>f2 o az hz y (List.mem_of_mem_take hy);have dA:∀{o i j},MR O rk a b o i j->i=0->UP O rk a b (a.extract 0 i++b.extract 0 j++o.reverse):=λh e=>h.fin ua ub λ_ x hx=>by rw[e]at hx;cases hx
  have dB:∀{o i j},MR O rk a b o i j->j=0->UP O rk a b (a.extract 0 i++b.extract 0 j++o.reverse):=λh e=>h.fin ua ub λ_ x _ y hy=>by rw[e]at hy;cases hy
  have fs:∀{o i j},MR O rk a b o i j->j=1->UP O rk a b (b.extract 0 j++a.extract 0 i++o.reverse):=λ{o i j} h e=>h.Kh ua ub λz x hx y hy=>by
   have e2:=tL sU;rw[List.drop_zero]at e2;rw[e,e2]at hx;rw[show x=b0 by simpa using hx];exact f1 z b0 sU y (List.mem_of_mem_take hy)
  refine aN (xW (aN (f9 hz (cE (λe=>aS (q _ _ wI (dA m0 (gu e)))) λe1=>cE (λe=>aS (q _ _ wI (fs m0 (gu e)))) λe2=>?_))));have Fc:¬a.size-1=0:=λz=>e1 (beq_iff_eq.mpr z);have nh:¬b.size=1:=λz=>e2 (beq_iff_eq.mpr z)
  let I4:Nat->Option (Array Keyed)×Nat×Nat×Array Keyed×Nat->SortSt->Prop:=λi c ak=>Sm st ak/\∃na nb out mg,c=(b_,na,nb,out,mg)/\MR O rk a b out na nb/\1<=na/\na<=a.size/\2<=nb/\nb<=b.size/\na+nb+i<a.size+b.size
  let Q4:Option (Array Keyed)×Nat×Nat×Array Keyed×Nat->SortSt->Prop:=λc ak=>Sm st ak/\∃(r:Array Keyed) (o:_),c=(a_ r,o)/\UP O rk a b r
  refine aN (wpS_get (aN (rD (nv (I:=I4) (Q:=Q4) ?_ ?_ ⟨wI,_,_,_,_,rfl,m0,li,li,li,li,li⟩) ?_)))
  ·refine Ud λw na nb out mg dM hw sm r=>?_;have m1:=r.1;have h1:=r.2.1;have h2:=r.2.2.1;have h3:=r.2.2.2.1;have h4:=r.2.2.2.2.1;have h5:=r.2.2.2.2.2
   let I5:Nat->Option (Array Keyed)×Nat×Nat×Array Keyed×Nat×Nat->SortSt->Prop:=λj c ak=>ak=dM/\∃na nb out ac bc,c=(b_,na,nb,out,ac,bc)/\MR O rk a b out na nb/\1<=na/\na<=a.size/\2<=nb/\nb<=b.size/\na+nb+w+j<a.size+b.size
   let Q5:Option (Array Keyed)×Nat×Nat×Array Keyed×Nat×Nat->SortSt->Prop:=λc ak=>ak=dM/\((∃na nb out ac bc,c=(b_,na,nb,out,ac,bc)/\MR O rk a b out na nb/\1<=na/\na<=a.size/\2<=nb/\nb<=b.size/\na+nb+(w+1)<a.size+b.size)\/∃(r:Array Keyed) (o:_),c=(a_ r,o)/\UP O rk a b r)
   refine aN (rD (nv (I:=I5) (Q:=Q5) ?_ ?_ ⟨rfl,_,_,_,_,_,rfl,m1,h1,h2,h3,h4,h5⟩) ?_)
   ·refine Uc λj na nb out ac bc hj r=>?_;have m2:=r.1;have h1:=r.2.1;have h2:=r.2.2.1;have h3:=r.2.2.2.1;have h4:=r.2.2.2.2.1;have h5:=r.2.2.2.2.2;obtain⟨y,y1,Uy⟩:=Ub.at' (show nb-1<b.size by lia);obtain⟨x,x1,Ux⟩:=Ua.at' (show na-1<a.size by lia);refine aN (f9 y1 (aN (f9 x1 (aN (C _ _ _ _ (sm.k.trans hκ) Uy Ux λc hc=>?_)))));cases c
    ·have m3:=(m2.swap.one ub li y1 λo z hz=>kE (CY (ua o) h1 x1 z hz) (xS.mp (of_decide_eq_false (hc o).symm))).swap;refine aN (f9 y1 (cE (λe=>aS ⟨rfl,.inr ⟨_,_,rfl,fs m3 (gu e)⟩⟩) λe=>?_));have n1:¬nb-1=1:=λz=>e (beq_iff_eq.mpr z);exact cE (λ_=>aS ⟨rfl,.inl ⟨_,_,_,_,_,rfl,m3,h1,h2,li,li,li⟩⟩) λ_=>aS ⟨rfl,_,_,_,_,_,rfl,m3,h1,h2,li,li,li⟩
    ·have m3:=m2.one ua h1 x1 λo z hz=>kE (CY (ub o) li y1 z hz) (Int.le_of_lt (of_decide_eq_true (hc o).symm));refine aN (f9 x1 (cE (λe=>aS ⟨rfl,.inr ⟨_,_,rfl,dA m3 (gu e)⟩⟩) λe=>?_));have n1:¬na-1=0:=λz=>e (beq_iff_eq.mpr z);exact cE (λ_=>aS ⟨rfl,.inl ⟨_,_,_,_,_,rfl,m3,li,li,h3,h4,li⟩⟩) λ_=>aS ⟨rfl,_,_,_,_,_,rfl,m3,li,li,h3,h4,li⟩
   ·rintro c du ⟨rfl,na,nb,out,ac,bc,rfl,m2,h1,h2,h3,h4,h5⟩;exact⟨rfl,.inl ⟨_,_,_,_,_,rfl,m2,h1,h2,h3,h4,li⟩⟩
   refine Uh (λna nb out ac bc r=>?_) λr o g=>aS ⟨sm,_,_,rfl,g⟩;have m2:=r.1;have h1:=r.2.1;have h2:=r.2.2.1;have h3:=r.2.2.2.1;have h4:=r.2.2.2.2.1;have h5:=r.2.2.2.2.2
   let I6:Nat->Option (Array Keyed)×Nat×Nat×Array Keyed×Nat×Nat×Nat->SortSt->Prop:=λj c ak=>Sm st ak/\∃na nb out mg ac bc,c=(b_,na,nb,out,mg,ac,bc)/\MR O rk a b out na nb/\1<=na/\na<=a.size/\2<=nb/\nb<=b.size/\na+nb+(w+1)<a.size+b.size
   let Q6:Option (Array Keyed)×Nat×Nat×Array Keyed×Nat×Nat×Nat->SortSt->Prop:=λc ak=>Sm st ak/\((∃na nb out mg ac bc,c=(b_,na,nb,out,mg,ac,bc)/\MR O rk a b out na nb/\1<=na/\na<=a.size/\2<=nb/\nb<=b.size/\na+nb+(w+1)<a.size+b.size)\/∃(r:Array Keyed) (o:_),c=(a_ r,o)/\UP O rk a b r)
   refine aN (xW (aN (rD (nv (I:=I6) (Q:=Q6) ?_ ?_ ⟨sm,_,_,_,_,_,_,rfl,m2,h1,h2,h3,h4,h5⟩) ?_)))
   ·refine T' λj na nb out mg ac bc gD hj km r=>?_;have m3:=r.1;have h1:=r.2.1;have h2:=r.2.2.1;have h3:=r.2.2.2.1;have h4:=r.2.2.2.2.1;have h5:=r.2.2.2.2.2;obtain⟨y,y1,Uy⟩:=Ub.at' (show nb-1<b.size by lia);apply N7
    case h1=>
     intro T;generalize (b_,na,nb,out,mg,ac,bc).snd.snd.snd.snd.fst-1=v;exact T v
    case h2=>exact λT=>T _
    case t=>
     intro mg2;refine aN (Co km ⟨rfl,rfl,rfl,rfl⟩ λwH gm=>aN (f9 y1 (aN (SJ G C (gm.k.trans hκ) Ua Uy ua h1 h2 λk hk p=>?_))));have m4:=m3.add ua hk λo u hu v hv=>kE (CY (ub o) li y1 u hu) ((p o).2 v hv);apply Cp (P:=1<=k)
     case h1=>
      intro zd T;exact cE (λe=>aS ⟨gm,.inr ⟨_,_,rfl,dA m4 (gu e)⟩⟩) λe=>T (Nat.pos_of_ne_zero λz=>e (beq_iff_eq.mpr z))
     case h2=>
      intro zd
      have kz:k=na:=by
       have:¬na-k > 0:=zd;lia
      have e:out++(a.extract k na).reverse=out:=by rw[kz];exact SO _ _ _
      refine⟨li,?_⟩;rw[e,kz]
     case t=>
      intro Wg;have m6:=(m4.swap.one ub li y1 λo=>(p o).1).swap;refine aN (f9 y1 (cE (λe=>aS ⟨gm,.inr ⟨_,_,rfl,fs m6 (gu e)⟩⟩) λe1=>?_));have n3:¬nb-1=1:=λz=>e1 (beq_iff_eq.mpr z);obtain⟨x,x1,Ux⟩:=Ua.at' (show k-1<a.size by lia);refine aN (f9 x1 (aN (SJ G C (gm.k.trans hκ) Ub Ux ub li li λk2 qQ p2=>?_)));have m7:=(m6.swap.add ub qQ λo u hu v hv=>kE (CY (ua o) Wg x1 u hu) ((p2 o).2 v hv)).swap;apply Cp (P:=2<=k2)
      case h1=>
       intro hq T;refine cE (λe=>aS ⟨gm,.inr ⟨_,_,rfl,fs m7 (gu e)⟩⟩) λe3=>cE (λe=>aS ⟨gm,.inr ⟨_,_,rfl,dB m7 (gu e)⟩⟩) λWs=>T ?_;have n4:¬k2=1:=λz=>e3 (beq_iff_eq.mpr z);have n5:¬k2=0:=λz=>Ws (beq_iff_eq.mpr z);lia
      case h2=>
       intro hq
       have Vi:k2=nb-1:=by
        have:¬nb-1-k2 > 0:=hq;lia
       have e:∀o:Array Keyed,o++(b.extract k2 (nb-1)).reverse=o:=λo=>by rw[Vi];exact SO _ _ _
       refine⟨li,?_⟩;rw[e,Vi]
      case t=>
       intro Wf;have m9:=m7.one ua Wg x1 λo=>(p2 o).1;refine aN (f9 x1 (cE (λe=>aS ⟨gm,.inr ⟨_,_,rfl,dA m9 (gu e)⟩⟩) λe4=>?_));have n9:¬k-1=0:=λz=>e4 (beq_iff_eq.mpr z);have q1:1<=k-1:=li;have q2:k-1<=a.size:=li;have We:k2<=b.size:=li;have q3:k-1+k2+(w+1)<a.size+b.size:=li;exact cE (λ_=>aS ⟨gm,.inl ⟨_,_,_,_,_,_,rfl,m9,q1,q2,Wf,We,q3⟩⟩) λ_=>aS ⟨gm,_,_,_,_,_,_,rfl,m9,q1,q2,Wf,We,q3⟩
   ·rintro c gD ⟨km,na,nb,out,mg,ac,bc,rfl,m3,h1⟩;exact⟨km,.inl ⟨_,_,_,_,_,_,rfl,m3,h1⟩⟩
   exact Ug (λna nb out mg ac bc gD km r=>aN (Co km ⟨rfl,rfl,rfl,rfl⟩ λwH gm=>aS ⟨gm,_,_,_,_,rfl,r⟩)) λgD r o km g=>aS ⟨km,_,_,rfl,g⟩
  ·rintro c ak ⟨sm,na,nb,out,mg,rfl,_,h1,h2,h3,h4,h5⟩;lia
  ·exact ir λak r o sm g=>aS (q _ _ sm g)
theorem YF:NG:=by
 obtain⟨g,ml,mh,a,b,c,d⟩:=YG;exact d a (b a) (c a)
end TS
open L2
namespace TS
variable{M:Model}{A:h_}{E:f_->g_->Prop}{s:g_}{κ:jx}{a0:List Keyed}{pd:Array (Nat×Nat×Nat)}{st:SortSt}{O:Prop}{rk:Keyed->Int}
theorem yn(C:o7 M A E s κ a0 O rk){i j:Nat}{Q:Option Bool->SortSt->Prop}(g:G κ a0 pd st)(hi:i<a0.length)(hj:j<a0.length)(q:∀b x y,(arrOf st)[i]?=a_ x->(arrOf st)[j]?=a_ y->(O->b=decide (rk x<rk y))->Q (a_ b) st):wpS M A E s (ltAt' i j) Q st:=by
 obtain⟨x,hx,ux⟩:=g.of.at' (show i<(arrOf st).size by rw[g.size];exact hi);obtain⟨y,hy,uy⟩:=g.of.at' (show j<(arrOf st).size by rw[g.size];exact hj);rw[ltAt'_eq];exact aN (wpS_get (aN (f9 hx (aN (f9 hy (C st _ _ _ g.k ux uy λb=>q b x y hx hy))))))
theorem G.rev(g:G κ a0 pd st){lo j:Nat}{Q:PUnit->SortSt->Prop}(q:∀ak,G κ a0 pd ak->arrOf ak=mirror (arrOf st) lo j ((j-lo)/2)->Q ⟨⟩ ak):wpS M A E s (reverseSlice' lo j) Q st:=by
 rw[reverseSlice'_eq];exact vt (q _ ⟨g.k,g.f,(WZ.mp (mirror_perm _ _ _ _)).trans g.a,g.p⟩ rfl)
theorem G.move(g:G κ a0 pd st){i j:Nat}{Q:PUnit->SortSt->Prop}(q:∀ak,G κ a0 pd ak->arrOf ak=bubble (arrOf st) i (i-j)->Q ⟨⟩ ak):wpS M A E s (moveDown' i j) Q st:=by
 rw[moveDown'_eq];exact vt (q _ ⟨g.k,g.f,(WZ.mp (bubble_perm _ _ _)).trans g.a,g.p⟩ rfl)
theorem sw2{Z:Array Keyed}{Q T:List Keyed}{x y:Keyed}(e:Z.toList=Q++y::x::T):(Z.swapIfInBounds (Q.length+1) Q.length).toList=Q++x::y::T:=by
 obtain⟨l⟩:=Z;subst e;unfold Array.swapIfInBounds;rw[dif_pos (by simp),dif_pos (by simp),Array.toList_swap];simp[List.set_append_right]
theorem SX{xs:Array Keyed}{R:List Keyed}{x:Keyed}:∀(b Q:List Keyed),xs.toList=Q++(b++x::R)->(bubble xs (Q.length+b.length) b.length).toList=Q++x::(b++R)
 | [],Q,e=>e
 | y::b,Q,e=>by
  have h:=SX (xs:=xs) (R:=R) (x:=x) b (Q++[y]) (by rw[e];simp);have el:(Q++[y]).length+b.length=Q.length+(y::b).length:=by simp;lia
  rw[el]at h;rw[show (y::b).length=b.length+1 from rfl,bubble_succ,show Q.length+(b.length+1)-b.length=Q.length+1 by lia];exact sw2 (h.trans (by simp))
theorem Z3{a:Array Keyed}{lo n:Nat}{x:Keyed}(h:a[lo+n]?=a_ x):seg a lo (n+1)=seg a lo n++[x]:=by
 unfold seg;rw[List.take_add_one,List.getElem?_drop,show a.toList[lo+n]?=a_ x by simpa using h];rfl
theorem Iz{a:Array Keyed}{lo:Nat}:Up rk (seg a lo 1):=by
 have:(seg a lo 1).length<=1:=by unfold seg;rw[List.length_take];lia
 cases e:seg a lo 1 with
 | nil=>exact List.Pairwise.nil
 | cons y r=>
  rw[e]at this;cases r with
  | nil=>exact List.pairwise_singleton _ _
  | cons z r=>exact absurd this (by simp)
theorem CI{a:Array Keyed}{lo n:Nat}{x y:Keyed}(h:Up rk (seg a lo n))(h1:1<=n)(hz:lo+n<=a.size)(hy:a[lo+n-1]?=a_ y)(hx:a[lo+n]?=a_ x)(hl:rk y<=rk x):Up rk (seg a lo (n+1)):=by
 rw[Z3 hx];refine List.pairwise_append.mpr ⟨h,List.pairwise_singleton _ _,λu hu v hv=>?_⟩;rw[List.mem_singleton.mp hv];exact kE (PJ h (by rw[p9 hz];exact seg_at (by rw[show lo+(n-1)=lo+n-1 by lia];exact hy) li) u hu) hl
theorem aec(C:o7 M A E s κ a0 O rk){lo n ok:Nat}{Q:Bool->SortSt->Prop}(g:G κ a0 pd st)(hn:lo+n<=a0.length)(h1:1<=n)(aD:ok<=n)(up:O->Up rk (seg (arrOf st) lo ok))(q:∀ak,G κ a0 pd ak->(O->iy (arrOf st) (arrOf ak) lo n/\Up rk (seg (arrOf ak) lo n))->Q c_ ak):wpS M A E s (binarySort' lo n ok) Q st:=by
 rw[binarySort'_eq]
 let I:Nat->Option Bool×Unit->SortSt->Prop:=λk c ak=>c=(b_,())/\G κ a0 pd ak/\(O->iy (arrOf st) (arrOf ak) lo k/\Up rk (seg (arrOf ak) lo k))
 refine aN (rD (nv (I:=I) (Q:=I n) ?_ (λc ak h=>by rw[show max (max ok 1) n=n by lia]at h;exact h) ⟨rfl,g,λo=>⟨z9 _ _ _,?_⟩⟩) ?_)
 ·rintro k c dM uW hk ⟨rfl,g1,i1⟩;have z1:=g1.size;have uW:1<=k:=li;obtain⟨x,hx,_⟩:=g1.of.at' (show lo+k<(arrOf dM).size by lia);have lk:=p9 (a:=arrOf dM) (i:=lo) (n:=k) li
  obtain⟨k0,h2⟩:∃k0,O->k0<=k/\∀i (h:i<k),(!decide (rk x<rk ((seg (arrOf dM) lo k)[i]' li)))=decide (i<k0):=by
   by_cases hO:O
   ·obtain⟨k0,h1,h2⟩:=IU (p:=λy=>!decide (rk x<rk y)) ((i1 hO).2.imp λ{u v} h=>by simp;lia);exact⟨k0,λ_=>⟨li,λi h=>h2 i li⟩⟩
   ·exact⟨0,λz=>absurd z hO⟩
  refine aN (lp (λi l r=>r<=k/\l<=k/\(O->l<=k0/\k0<=r/\r-l<=k-i)) (λl _=>l<=k/\(O->l=k0)) ⟨aw k,aP _,λo=>by have:=(h2 o).1;lia⟩ (λl r p=>⟨p.2.1,λo=>by have:=p.2.2 o;lia⟩) (λl r p=>aN (g1.move λdu g2 e2=>aS ⟨rfl,g2,λo=>?_⟩)) λi l r R hi p r1 r2=>cE (λe=>aS (r1 ⟨p.2.1,λo=>by have:=p.2.2 o;have:l ≥ r:=e;lia⟩)) λe=>aN (yn C g1 li (by have:¬l ≥ r:=e;have:=p.1;show lo+(l+r)/2<_;lia) λb x' y mU hy hb=>?_))
  ·have el:=p.2 o;subst el;have m1:=(i1 o).1;unfold iy at m1
   have dr:(arrOf st).toList.drop (lo+k)=x::(arrOf st).toList.drop (lo+k+1):=by
    have h0:(arrOf dM).toList.drop (lo+k)=(arrOf st).toList.drop (lo+k):=by
     conv=>lhs;rw[m1]
     rw[List.drop_append,List.drop_eq_nil_of_le (by rw[List.length_append,List.length_take,lk];lia),List.length_append,List.length_take,lk,dj,g.size,nZ li,oa,List.drop_zero];rfl
    rw[<-h0,tL hx];have h3:=congrArg (List.drop 1) h0;rw[List.drop_drop,List.drop_drop]at h3;rw[h3]
   rw[dr]at m1;have zd:=(h2 o).1;have lt:((arrOf st).toList.take lo++(seg (arrOf dM) lo k).take l).length=lo+l:=by rw[List.length_append,List.length_take,List.length_take,lk,dj,g.size];lia
   have b0:=SX (xs:=arrOf dM) (R:=(arrOf st).toList.drop (lo+k+1)) (x:=x) ((seg (arrOf dM) lo k).drop l) ((arrOf st).toList.take lo++(seg (arrOf dM) lo k).take l) (by rw[<-List.append_assoc,List.append_assoc (List.take lo _),List.take_append_drop];exact m1);rw[lt,List.length_drop,lk,show lo+l+(k-l)=lo+k by lia]at b0;rw[show lo+k-(lo+l)=k-l by lia]at e2;have mo:=Dk (a:=arrOf st) (a':=arrOf du) (m:=(seg (arrOf dM) lo k).take l++x::(seg (arrOf dM) lo k).drop l) (i:=lo) (n:=k+1) (by rw[e2,b0];simp[Nat.add_assoc]) (by rw[List.length_append,List.length_cons,List.length_take,List.length_drop,lk];lia) (by rw[g.size];lia);refine⟨mo.1,?_⟩;rw[mo.2];have uc:=ji (i1 o).2 l;refine List.pairwise_append.mpr ⟨uc.1,List.pairwise_cons.mpr ⟨λy hy=>?_,uc.2.1⟩,λu hu v hv=>(List.mem_cons.mp hv).elim (λe=>?_) (uc.2.2 u hu v)⟩
   ·obtain⟨i,hi,rfl⟩:=List.mem_drop_iff_getElem.mp hy;have:=(h2 o).2 (l+i) li;rw[decide_eq_false (show ¬l+i<l by lia)]at this;simp at this;lia
   ·rw[e];obtain⟨i,hi,rfl⟩:=List.mem_take_iff_getElem.mp hu;have:=(h2 o).2 i li;rw[decide_eq_true (show i<l by lia)]at this;simpa using this
  ·have e:¬l ≥ r:=e;rw[hx]at mU;cases mU;have hm:(l+r)/2<k:=by have:=p.1;lia
   have EO:=seg_at (i:=lo) (n:=k) hy hm;have hT:=λo=>(h2 o).2 ((l+r)/2) hm;rw[(List.getElem?_eq_some_iff.mp EO).2]at hT;cases b
   ·exact aS (r2 _ _ ⟨p.1,by have:=p.1;show (l+r)/2+1<=k;lia,λo=>by have:=p.2.2 o;have h3:=hT o;rw[<-hb o]at h3;have:=of_decide_eq_true h3.symm;show (l+r)/2+1<=k0/\k0<=r/\r-((l+r)/2+1)<=k-(i+1);lia⟩)
   ·exact aS (r2 _ _ ⟨by have:=p.1;show (l+r)/2<=k;lia,p.2.1,λo=>by have:=p.2.2 o;have h3:=hT o;rw[<-hb o]at h3;have:=of_decide_eq_false h3.symm;show l<=k0/\k0<=(l+r)/2/\(l+r)/2-l<=k-(i+1);lia⟩)
 ·by_cases h:1<=ok
  ·rw[Nat.max_eq_left h];exact up o
  ·rw[show max ok 1=1 by lia];exact Iz
 ·rintro c dM ⟨rfl,g1,i1⟩;exact aS (q _ g1 i1)
end TS
open L2
namespace TS
variable{M:Model}{A:h_}{E:f_->g_->Prop}{s:g_}{κ:jx}{a0:List Keyed}{pd:Array (Nat×Nat×Nat)}{st:SortSt}{O:Prop}{rk:Keyed->Int}
theorem T9{γ:Type}{n0 nrem:Nat}(P D:Nat->SortSt->Prop){F:Nat->Option γ×Nat->StateT SortSt Sem (ForInStep (Option γ×Nat))}{R:Option γ×Nat->SortSt->Prop}(h:n0<=nrem)(h0:P n0 st)(he:∀ak,P nrem ak->D nrem ak)(q:∀n ak,n0<=n->n<=nrem->D n ak->R (b_,n) ak)
  (hF:∀n st (R:ForInStep (Option γ×Nat)->SortSt->Prop),n0<=n->n<nrem->P n st->(D n st->R (.done (b_,n)) st)->(P (n+1) st->R (.yield (b_,n+1)) st)->wpS M A E s (F n (b_,n)) R st):wpS M A E s (forIn [n0:nrem] (b_,n0) F) R st:=by
 refine nv (I:=λi c ak=>c=(b_,i)/\P i ak) ?_ ?_ ⟨rfl,h0⟩
 ·rintro i c ak h1 hi ⟨rfl,p⟩;exact hF i ak _ h1 hi p (q i ak h1 (c8 hi)) λp'=>⟨rfl,p'⟩
 ·rintro c ak ⟨rfl,p⟩;rw[MY h]at p ⊢;exact q nrem ak h (aw _) (he ak p)
theorem lpD{γ:Type}{n0 nrem e0:Nat}(P:Nat->Nat->SortSt->Prop){F:Nat->Option γ×Nat×Nat->StateT SortSt Sem (ForInStep (Option γ×Nat×Nat))}{R:Option γ×Nat×Nat->SortSt->Prop}(h:n0<=nrem)(h0:P n0 e0 st)(q:∀n e ak,n0<=n->n<=nrem->P n e ak->R (b_,n,e) ak)
  (hF:∀n e st (R:ForInStep (Option γ×Nat×Nat)->SortSt->Prop),n0<=n->n<nrem->P n e st->R (.done (b_,n,e)) st->(∀e ak,P (n+1) e ak->R (.yield (b_,n+1,e)) ak)->wpS M A E s (F n (b_,n,e)) R st):wpS M A E s (forIn [n0:nrem] (b_,n0,e0) F) R st:=by
 refine nv (I:=λi c ak=>∃e,c=(b_,i,e)/\P i e ak) ?_ ?_ ⟨e0,rfl,h0⟩
 ·rintro i c ak h1 hi ⟨e,rfl,p⟩;exact hF i e ak _ h1 hi p (q i e ak h1 (c8 hi) p) λe du p2=>⟨e,rfl,p2⟩
 ·rintro c ak ⟨e,rfl,p⟩;rw[MY h]at p ⊢;exact q nrem e ak h (aw _) p
theorem QC{β:Type}(P:SortSt->Prop){Q:β->SortSt->Prop}{c:Prop}[Decidable c]{X Y J:StateT SortSt Sem β}(h1:c->(∀ak,P ak->wpS M A E s J Q ak)->wpS M A E s X Q st)(h2:Y=J)(g:¬c->P st)(t:∀ak,P ak->wpS M A E s J Q ak):wpS M A E s (if c then X else Y) Q st:=cE (λh=>h1 h t) λh=>by rw[h2];exact t _ (g h)
def S9(rk:Keyed->Int)(l:List Keyed):Prop:=∀(i j:Nat) (x y:Keyed),i≠j->l[i]?=a_ x->l[j]?=a_ y->rk x≠rk y
theorem mir{xs:Array Keyed}{lo n:Nat}(h:lo+n<=xs.size):(mirror xs lo (lo+n) ((lo+n-lo)/2)).toList=xs.toList.take lo++(seg xs lo n).reverse++xs.toList.drop (lo+n):=by
 have hs:xs.toList.length=xs.size:=dj;have lP:(xs.toList.take lo).length=lo:=by rw[List.length_take];lia
 have lS:=p9 h;apply List.ext_getElem?;intro i;rw[pN,getElem?_mirror_all h]
 by_cases c1:i<lo
 ·rw[if_neg li,List.append_assoc,List.getElem?_append_left li,List.getElem?_take,if_pos c1];simp
 by_cases c2:i<lo+n
 ·rw[if_pos li,List.append_assoc,List.getElem?_append_right li,List.getElem?_append_left (by rw[List.length_reverse];lia),lP,List.getElem?_reverse li,lS];unfold seg;rw[List.getElem?_take,if_pos om,List.getElem?_drop,show lo+(n-1-(i-lo))=lo+(lo+n)-1-i by lia];simp
 ·rw[if_neg li,List.getElem?_append_right (by rw[List.length_append,List.length_reverse];lia),List.length_append,List.length_reverse,lP,lS,List.getElem?_drop,show lo+n+(i-(lo+n))=i by lia];simp
theorem ac9(C:o7 M A E s κ a0 O rk){lo nrem:Nat}{Q:Option Nat->SortSt->Prop}(g:G κ a0 pd st)(hn:lo+nrem<=a0.length)(h1:1<=nrem)(D:O->S9 rk (arrOf st).toList)(q:∀ak k,G κ a0 pd ak->1<=k->k<=nrem->(O->iy (arrOf st) (arrOf ak) lo k/\Up rk (seg (arrOf ak) lo k))->Q (a_ k) ak):wpS M A E s (countRun' lo nrem) Q st:=by
 have hs:=g.size;have Wv:∀{i j x y},O->i≠j->(arrOf st)[i]?=a_ x->(arrOf st)[j]?=a_ y->rk x≠rk y:=λ{i j x y} o sS hx hy=>D o i j x y sS (by simpa using hx) (by simpa using hy);rw[countRun'_eq];refine aN (T9 (λn ak=>ak=st/\(O->Up rk (seg (arrOf st) lo n))) (λn ak=>ak=st/\(O->Up rk (seg (arrOf st) lo n))/\(O->n<nrem->∀x y,(arrOf st)[lo+n]?=a_ x->(arrOf st)[lo+n-1]?=a_ y->rk x<rk y)) h1 ⟨rfl,λ_=>Iz⟩ (λak p=>⟨p.1,p.2,λ_ z=>absurd z (nu _)⟩) (λn dM b1 b2 d=>?_) λn dM R n1 n2 p r1 r2=>?_)
 ·obtain⟨rfl,u,dd⟩:=d;refine cE (λ_=>aS (q _ n g b1 b2 λo=>⟨z9 _ _ _,u o⟩)) λe=>?_
  have bG:n<nrem:=by
   have:¬n=nrem:=λz=>e (beq_iff_eq.mpr z);lia
  refine QC (λak=>G κ a0 pd ak/\(O->ak=dM/\n=1)) (λe1 T=>?_) rfl (λe1=>⟨g,λ_=>⟨rfl,by have:¬n > 1:=e1;lia⟩⟩) λdu ⟨g2,o2⟩=>?_
  ·have e1:n > 1:=e1;refine aN (yn C g li (by show lo+n-1<_;lia) λb z y hz hy hb=>?_);cases b
   ·refine aN (g.rev λdu g2 _=>T du ⟨g2,λo=>?_⟩);have h2:=of_decide_eq_false (hb o).symm;have h3:=OQ (u o) (seg_at (j:=0) (n:=n) hz li) y (List.mem_of_getElem? (seg_at (j:=n-1) (n:=n) (by rw[show lo+(n-1)=lo+n-1 by lia];exact hy) li));have h4:=Wv o (show lo≠lo+n-1 by lia) hz hy;exact absurd (Int.lt_iff_le_and_ne.mpr ⟨h3,h4⟩) h2
   ·exact aS (q _ n g b1 b2 λo=>⟨z9 _ _ _,u o⟩)
  ·refine aN (xW (aN (lpD (λk e ak=>G κ a0 pd ak/\(O->ak=dM/\e=0/\Up (λx=>- rk x) (seg (arrOf dM) lo k))) (show n+1<=nrem from bG) ⟨g2,λo=>⟨(o2 o).1,rfl,?_⟩⟩ (λk e gD c1 c2 ⟨g3,o3⟩=>?_) λk e gD R k1 k2 ⟨g3,o3⟩ r1 r2=>?_)))
   ·obtain⟨rfl,rfl⟩:=o2 o;obtain⟨x,hx,_⟩:=g2.of.at' (show lo+1<(arrOf du).size by lia);obtain⟨y,hy,_⟩:=g2.of.at' (show lo+1-1<(arrOf du).size by lia);have:=dd o bG x y hx hy;exact CI (rk:=λx=>- rk x) Iz (aw 1) li hy hx (by show-rk y<=- rk x;lia)
   ·refine QC (λak=>G κ a0 pd ak/\(O->ak=gD)) (λe1 T=>aN (g3.rev λwH g4 _=>T wH ⟨g4,λo=>?_⟩)) rfl (λ_=>⟨g3,λ_=>rfl⟩) λwH ⟨g4,o4⟩=>?_
    ·have:=(o3 o).2.1;have:e > 0:=e1;lia
    refine aN (g4.rev λer g5 e5=>?_)
    have mo:O->iy (arrOf dM) (arrOf er) lo k/\Up rk (seg (arrOf er) lo k):=λo=>by
     obtain⟨rfl,_,u3⟩:=o3 o;rw[o4 o]at e5;have em:=mir (xs:=arrOf gD) (lo:=lo) (n:=k) li;rw[<-e5]at em;have m:=Dk em (by rw[List.length_reverse];exact p9 li) li;refine⟨m.1,?_⟩;rw[m.2,Up,List.pairwise_reverse];exact u3.imp λz=>li
    have tail:∀j,O->k<=j->j<=nrem->iy (arrOf dM) (arrOf er) lo j:=λj o j1 j2=>by
     have m:=(mo o).1;refine(Dk (m:=seg (arrOf er) lo j) ?_ (p9 (by rw[g5.size];lia)) li).1;unfold iy at m
     have e6:seg (arrOf er) lo j=seg (arrOf er) lo k++((arrOf dM).toList.drop (lo+k)).take (j-k):=by
      have h7:(arrOf er).toList.drop (lo+k)=(arrOf dM).toList.drop (lo+k):=by
       conv=>lhs;rw[m]
       rw[List.drop_append,List.drop_eq_nil_of_le (by rw[List.length_append,List.length_take,p9 (by rw[g5.size];lia),dj];lia),List.length_append,List.length_take,p9 (by rw[g5.size];lia),dj,nZ li,oa,List.drop_zero];rfl
      have h8:=HQ (arrOf er) lo k (j-k);rw[MQ j1]at h8;rw[h8,<-h7];rfl
     rw[e6]
     conv=>lhs;rw[m]
     rw[List.append_assoc,List.append_assoc,List.append_assoc,show lo+j=lo+k+(j-k) by lia];generalize lo+k=u;rw[<-List.drop_drop,List.take_append_drop]
    refine aN (T9 (λj ak=>ak=er/\(O->Up rk (seg (arrOf er) lo j))) (λj ak=>ak=er/\(O->Up rk (seg (arrOf er) lo j))) c2 ⟨rfl,λo=>(mo o).2⟩ (λ_ p=>p) (λj UC j1 j2 d=>?_) λj UC R j1 j2 p r1 r2=>?_)
    ·obtain⟨rfl,u⟩:=d;exact aS (q _ j g5 li j2 λo=>⟨tail j o j1 j2,u o⟩)
    ·obtain⟨rfl,u⟩:=p;refine aN (yn C g5 li li λb x y hx hy hb=>?_);cases b
     ·exact aS (r2 ⟨rfl,λo=>CI (u o) li (by rw[g5.size];lia) hy hx (xS.mp (of_decide_eq_false (hb o).symm))⟩)
     ·exact aS (r1 ⟨rfl,u⟩)
   ·refine aN (yn C g3 li li λb x y hx hy hb=>?_);have mU:O->(arrOf dM)[lo+k]?=a_ x:=λo=>by rw[<-(o3 o).1];exact hx
    have EO:O->(arrOf dM)[lo+k-1]?=a_ y:=λo=>by rw[<-(o3 o).1];exact hy
    cases b
    ·refine aN (yn C g3 li li λb y' x' Bb lF Fb=>?_);cases b
     ·refine aS (r2 _ _ ⟨g3,λo=>?_⟩);rw[hx]at lF;rw[hy]at Bb;cases lF;cases Bb;have h3:=of_decide_eq_false (hb o).symm;have h4:=of_decide_eq_false (Fb o).symm;exact absurd (Int.le_antisymm (xS.mp h4) (xS.mp h3)) (Wv o (show lo+k≠lo+k-1 by lia) (mU o) (EO o))
     ·exact aS r1
    ·have up3:O->Up (λx=>- rk x) (seg (arrOf dM) lo (k+1)):=λo=>CI (rk:=λx=>- rk x) (o3 o).2.2 li li (EO o) (mU o) (by have:=of_decide_eq_true (hb o).symm;show-rk y<=- rk x;lia);exact cE (λ_=>cE (λe1=>aN (g3.rev λwH g4 _=>aS (r2 _ _ ⟨g4,λo=>by have:=(o3 o).2.1;have:e > 0:=e1;lia⟩))) λ_=>aS (r2 _ _ ⟨g3,λo=>⟨(o3 o).1,rfl,up3 o⟩⟩)) λz=>absurd rfl z
 ·obtain⟨rfl,u⟩:=p;refine aN (yn C g li li λb x y hx hy hb=>?_);cases b
  ·exact aS (r2 ⟨rfl,λo=>CI (u o) n1 li hy hx (xS.mp (of_decide_eq_false (hb o).symm))⟩)
  ·refine aS (r1 ⟨rfl,u,λo _ x' y' lF Bb=>?_⟩);rw[hx]at lF;rw[hy]at Bb;cases lF;cases Bb;exact of_decide_eq_true (hb o).symm
end TS
open L2
namespace TS
variable{M:Model}{A:h_}{E:f_->g_->Prop}{s:g_}{κ:jx}{a0:List Keyed}{pd:Array (Nat×Nat×Nat)}{st:SortSt}{O:Prop}{rk:Keyed->Int}
def Runs:List (Nat×Nat×Nat)->Nat->Nat->Prop
 | [],i,j=>i=j
 | (b,n,_)::l,i,j=>b=i/\1<=n/\Runs l (i+n) j
theorem Runs.le:∀{l:List (Nat×Nat×Nat)} {i j:Nat},Runs l i j->i<=j
 | [],i,j,h=>nz h
 | (b,n,_)::l,i,j,⟨_,_,h⟩=>cx (FE _ _) h.le
theorem Runs.app:∀{l l':List (Nat×Nat×Nat)} {i j:Nat},Runs (l++l') i j↔∃k,Runs l i k/\Runs l' k j
 | [],l',i,j=>⟨λh=>⟨i,rfl,h⟩,λ⟨k,e,h⟩=>(show i=k from e) ▸ h⟩
 | (b,n,p)::l,l',i,j=>⟨λ⟨h1,h2,h3⟩=>ai (Runs.app.mp h3) λk h5 h6=>⟨k,⟨h1,h2,h5⟩,h6⟩,λ⟨k,⟨h1,h2,h5⟩,h6⟩=>⟨h1,h2,Runs.app.mpr ⟨k,h5,h6⟩⟩⟩
theorem Runs.pw:∀{l l':List (Nat×Nat×Nat)} {i j:Nat},l.map (λx=>(x.1,x.2.1))=l'.map (λx=>(x.1,x.2.1))->Runs l i j->Runs l' i j
 | [],[],i,j,_,h=>h
 | [],_::_,_,_,e,_=>by cases e
 | _::_,[],_,_,e,_=>by cases e
 | (b,n,p)::l,(b',n',p')::l',i,j,e,⟨h1,h2,h4⟩=>by
  have e1:=(List.cons.inj e).1;have eb:b=b':=congrArg Prod.fst e1;have en:n=n':=congrArg Prod.snd e1;subst eb en;exact⟨h1,h2,h4.pw (List.cons.inj e).2⟩
def afH(rk:Keyed->Int)(a:Array Keyed)(l:List (Nat×Nat×Nat)):Prop:=∀x∈l,Up rk (seg a x.1 x.2.1)
theorem Runs.Eg:∀{l:List (Nat×Nat×Nat)} {i j:Nat},Runs l i j->∀x∈l,i<=x.1/\x.1+x.2.1<=j
 | [],_,_,_,_,h=>by cases h
 | (b,n,p)::l,i,j,⟨h1,h2,h3⟩,x,hx=>by
  rcases List.mem_cons.mp hx with e | e
  ·have:=h3.le;rw[e,h1];exact⟨aw _,this⟩
  ·have:=h3.Eg x e;lia
theorem QQ{a a':Array Keyed}{x n:Nat}(h:∀t,x<=t->t<x+n->a'.toList[t]?=a.toList[t]?):seg a' x n=seg a x n:=by
 unfold seg;apply List.ext_getElem?;intro i;rw[List.getElem?_take,List.getElem?_take]
 by_cases c:i<n
 ·rw[if_pos c,if_pos c,List.getElem?_drop,List.getElem?_drop];exact h _ li li
 ·rw[if_neg c,if_neg c]
theorem iy.lo{a a':Array Keyed}{i n t k:Nat}(m:iy a a' i n)(hi:i+n<=a.size)(h:t+k<=i):seg a' t k=seg a t k:=QQ λj h1 h2=>by
 unfold iy at m;rw[m,List.append_assoc,List.getElem?_append_left (by rw[List.length_take,dj];lia),List.getElem?_take,if_pos li]
theorem iy.hi{a a':Array Keyed}{i n t k:Nat}(m:iy a a' i n)(hs:a'.size=a.size)(hi:i+n<=a.size)(h:i+n<=t):seg a' t k=seg a t k:=QQ λj h1 h2=>by
 unfold iy at m;have l1:(a.toList.take i).length=i:=by rw[List.length_take,dj];lia
 have l2:=p9 (a:=a') (i:=i) (n:=n) li;rw[m,List.getElem?_append_right (by rw[List.length_append];lia),List.length_append,l1,l2,List.getElem?_drop,show i+n+(j-(i+n))=j by lia]
structure SS(O:Prop)(rk:Keyed->Int)(κ:jx)(a0:List Keyed)(lo:Nat)(st:SortSt):Prop where
 g:G κ a0 (b8 st) st
 r:Runs (b8 st).toList 0 lo
 h:lo<=a0.length
 u:O->afH rk (arrOf st) (b8 st).toList
theorem SS.merge(C:o7 M A E s κ a0 O rk){lo i:Nat}{Q:Bool->SortSt->Prop}(S:SS O rk κ a0 lo st)(hi:i+1<(b8 st).size)(q:∀ak,SS O rk κ a0 lo ak->(b8 ak).size+1=(b8 st).size->(O->∀x n,lo<=x->seg (arrOf ak) x n=seg (arrOf st) x n)->Q c_ ak):wpS M A E s (mergeAt' i) Q st:=by
 have hl:(b8 st).toList.length=(b8 st).size:=dj
 have split:(b8 st).toList=(b8 st).toList.take i++(b8 st).toList[i]::(b8 st).toList[i+1]::(b8 st).toList.drop (i+2):=by
  rw[<-List.drop_eq_getElem_cons,<-List.drop_eq_getElem_cons,List.take_append_drop]
 have e1:(b8 st).toList[i]?=a_ ((b8 st).toList[i]):=List.getElem?_eq_getElem _;have e2:(b8 st).toList[i+1]?=a_ ((b8 st).toList[i+1]):=List.getElem?_eq_getElem _;have r:=S.r;rw[split]at r;generalize (b8 st).toList[i]=P1 at e1 r split;generalize (b8 st).toList[i+1]=P2 at e2 r split;obtain⟨sa,na,pa⟩:=P1;obtain⟨sb,nb,pb⟩:=P2;obtain⟨t,r1,h1,h2,h4,h5,r2⟩:=Runs.app.mp r;subst h1;subst h4;have hle:=r2.le;have gh:=S.h;have jd:=r1.Eg;have D3:=r2.Eg;have U:O->Up rk (seg (arrOf st) sa na)/\Up rk (seg (arrOf st) (sa+na) nb):=λo=>⟨S.u o _ (List.mem_of_getElem? e1),S.u o _ (List.mem_of_getElem? e2)⟩;refine YF M A E s κ a0 O rk C i sa na pa nb pb _ st Q S.g (by simpa using e1) (by simpa using e2) h2 h5 li U λak g' mo=>?_
 have ep:(b8 ak).toList=(b8 st).toList.take i++(sa,na+nb,pa)::(b8 st).toList.drop (i+2):=by
  rw[g'.p];have lt:((b8 st).toList.take i).length=i:=by rw[List.length_take];lia
  have:(((b8 st).setIfInBounds i (sa,na+nb,pa)).eraseIdxIfInBounds (i+1)).toList=((b8 st).toList.set i (sa,na+nb,pa)).eraseIdx (i+1):=by
   simp
  rw[this,split];generalize (b8 st).toList.take i=l1 at lt;generalize (b8 st).toList.drop (i+2)=l2;subst lt;simp;rw[List.eraseIdx_append_of_length_le li];simp
 have Bd:(arrOf ak).size=(arrOf st).size:=by rw[g'.size,S.g.size]
 have hz:=S.g.size;refine q ak ⟨⟨g'.k,g'.f,g'.a,rfl⟩,?_,gh,λo x hx=>?_⟩ ?_ λo x n hx=>(mo o).1.hi Bd li li
 ·rw[ep];refine Runs.app.mpr ⟨sa,r1,rfl,li,?_⟩;rw[<-Nat.add_assoc];exact r2
 ·rw[ep]at hx;rcases List.mem_append.mp hx with hx | hx
  ·rw[(mo o).1.lo li (jd x hx).2];exact S.u o x (by rw[split];exact List.mem_append_left _ hx)
  ·rcases List.mem_cons.mp hx with e | hx
   ·rw[e];exact(mo o).2
   ·have:=D3 x hx;rw[(mo o).1.hi Bd li li];exact S.u o x (by rw[split];exact List.mem_append_right _ (List.mem_cons_of_mem _ (List.mem_cons_of_mem _ hx)))
 ·rw[<-dj,ep,<-dj];simp;lia
theorem Qf(p:Array (Nat×Nat×Nat))(i pw:Nat):((p.modify i λx=>(x.1,x.2.1,pw)).toList.map λx=>(x.1,x.2.1))=p.toList.map λx=>(x.1,x.2.1):=by
 apply List.ext_getElem?;intro j;rw[List.getElem?_map,List.getElem?_map,pN,pN,Array.getElem?_modify]
 by_cases e:i=j
 ·rw[if_pos e];cases p[j]? with
  | none=>rfl
  | some x=>rfl
 ·rw[if_neg e]
theorem adS{c:Prop}[Decidable c]{a b n:Nat}(h1:a+1<n)(h2:b+1<n):(if c then a else b)+1<n:=by
 by_cases h:c
 ·rw[if_pos h];exact h1
 ·rw[if_neg h];exact h2
theorem SS.push{lo n:Nat}(S:SS O rk κ a0 lo st)(h1:1<=n)(h2:lo+n<=a0.length)(u:O->Up rk (seg (arrOf st) lo n)):SS O rk κ a0 (lo+n) (setPending st ((b8 st).push (lo,n,0))):=by
 have e:(b8 (setPending st ((b8 st).push (lo,n,0)))).toList=(b8 st).toList++[(lo,n,0)]:=by
  show ((b8 st).push _).toList=_;rw[FA]
 refine⟨⟨S.g.k,S.g.f,S.g.a,rfl⟩,by rw[e];exact Runs.app.mpr ⟨lo,S.r,rfl,h1,rfl⟩,h2,λo x hx=>?_⟩;rw[e]at hx;rcases List.mem_append.mp hx with z | z
 ·exact S.u o x z
 ·rw[List.mem_singleton.mp z];exact u o
theorem acE{l:List Keyed}(h:(l.map rk).Nodup):S9 rk l:=by
 intro i j x y sS hx hy e;refine oE (List.getElem?_eq_some_iff.mp hx) λa1 a2=>oE (List.getElem?_eq_some_iff.mp hy) λb1 b2=>?_;have p:=List.pairwise_iff_getElem.mp h;rcases Xn sS with c | c
 ·exact p i j (by simpa using a1) (by simpa using b1) c (by rw[List.getElem_map,List.getElem_map,a2,b2,e])
 ·exact p j i (by simpa using b1) (by simpa using a1) c (by rw[List.getElem_map,List.getElem_map,a2,b2,e])
theorem acN{β:Type}{Q:β->SortSt->Prop}(P:Nat->SortSt->Prop){c:Prop}[Decidable c]{X Y:StateT SortSt Sem β}{J:Nat->StateT SortSt Sem β}(h1:c->(∀v ak,P v ak->wpS M A E s (J v) Q ak)->wpS M A E s X Q st)(h2:(∀v ak,P v ak->wpS M A E s (J v) Q ak)->wpS M A E s Y Q st)(t:∀v ak,P v ak->wpS M A E s (J v) Q ak):wpS M A E s (if c then X else Y) Q st:=cE (λh=>h1 h t) λh=>h2 t
theorem aby(C:o7 M A E s κ a0 O rk)(nd:O->(a0.map rk).Nodup){Q:Unit->SortSt->Prop}(hκ:kindOf st=κ)(hf:nB st=b_)(hp:b8 st=#[])(ha:(arrOf st).toList=a0)(q:∀ak,nB ak=b_->(arrOf ak).toList.Perm a0->(O->Up rk (arrOf ak).toList)->Q () ak):wpS M A E s sortRuns' Q st:=by
 have sz:(arrOf st).size=a0.length:=by rw[<-dj,ha]
 rw[sortRuns'_eq];refine aN (wpS_get (aN (rD (nv (I:=λi c ak=>∃lo,c=(b_,lo)/\SS O rk κ a0 lo ak/\i<=lo) (Q:=λc ak=>c=(b_,a0.length)/\SS O rk κ a0 a0.length ak) ?_ ?_ ⟨0,rfl,⟨⟨hκ,hf,by rw[ha],rfl⟩,by rw[hp];rfl,aP _,λ_ x hx=>(by rw[hp]at hx;cases hx)⟩,aw _⟩) ?_)))
 ·rintro i c dM _ hi ⟨lo,rfl,S,kx⟩;have gh:=S.h;refine cE (λe=>?_) λe=>?_
  ·have:lo=a0.length:=by
    have:lo ≥ (arrOf st).size:=e;lia
   subst this;exact aS ⟨rfl,S⟩
  have bG:lo<a0.length:=by
   have:¬lo ≥ (arrOf st).size:=e;lia
  have z1:=S.g.size;refine aN (ac9 C (lo:=lo) (nrem:=(arrOf st).size-lo) S.g li li (λo=>acE ((S.g.a.map rk).nodup_iff.mpr (nd o))) λdu k g2 k1 k2 mo=>?_)
  have low:∀{st ak:SortSt} {n:Nat},SS O rk κ a0 lo st->G κ a0 (b8 st) ak->lo+n<=a0.length->(O->iy (arrOf st) (arrOf ak) lo n/\Up rk (seg (arrOf ak) lo n))->SS O rk κ a0 lo ak:=λ{st ak n} S g hn mo=>⟨⟨g.k,g.f,g.a,rfl⟩,by rw[g.p];exact S.r,S.h,λo x hx=>by
   rw[g.p]at hx;have:=(S.r.Eg x hx).2;rw[(mo o).1.lo (by rw[S.g.size];lia) this];exact S.u o x hx⟩
  have S2:=low S g2 li mo;apply acN (λn ak=>SS O rk κ a0 lo ak/\1<=n/\lo+n<=a0.length/\(O->Up rk (seg (arrOf ak) lo n)))
  case h1=>
   intro e2 T;have e3:=e2;refine aN (xW (aN (aec C S2.g li li li (λo=>(mo o).2) λgD g3 Lw=>cE (λz=>absurd z qc) λ_=>?_)));have f1:1<=min ((arrOf st).size-lo) (minRun' (arrOf st).size (arrOf st).size 0):=li;have f2:lo+min ((arrOf st).size-lo) (minRun' (arrOf st).size (arrOf st).size 0)<=a0.length:=li;generalize min ((arrOf st).size-lo) (minRun' (arrOf st).size (arrOf st).size 0)=N3 at f1 f2 Lw ⊢;exact T N3 gD ⟨low S2 g3 f2 Lw,f1,f2,λo=>(Lw o).2⟩
  case h2=>exact λT=>T k du ⟨S2,k1,li,λo=>(mo o).2⟩
  case t=>
   rintro n gD ⟨S3,n1,n2,u3⟩;refine aN (wpS_get ?_);cases hb:(b8 gD).back? with
   | none=>exact aN (vt (aS ⟨lo+n,rfl,S3.push n1 n2 u3,li⟩))
   | some P=>
    obtain⟨s1,m1,pw1⟩:=P;refine aN (rD (nv (I:=λ_ c ak=>c=(b_,())/\SS O rk κ a0 lo ak/\(O->Up rk (seg (arrOf ak) lo n))) (Q:=λc ak=>c=(b_,())/\SS O rk κ a0 lo ak/\(O->Up rk (seg (arrOf ak) lo n))) ?_ (λ_ _ h=>h) ⟨rfl,S3,u3⟩) ?_)
    ·rintro j c er _ _ ⟨rfl,S5,u5⟩;refine aN (wpS_get ?_);dsimp only
     by_cases ju:(b8 er).size > 1
     ·obtain⟨⟨x1,x2,x3⟩,hX⟩:∃X,(b8 er)[(b8 er).size-2]?=a_ X:=⟨(b8 er)[(b8 er).size-2],by simp⟩;rw[if_pos ju,hX];exact cE (λ_=>aS ⟨rfl,S5,u5⟩) λ_=>aN (S5.merge C li λUC S6 _ w6=>cE (λz=>absurd z qc) λ_=>aS ⟨rfl,S6,λo=>by rw[w6 o lo n (aw _)];exact u5 o⟩)
     ·rw[if_neg ju];exact aS ⟨rfl,S5,u5⟩
    ·rintro c er ⟨rfl,S5,u5⟩;refine aN (vt (aN (vt (aS ⟨lo+n,rfl,SS.push ⟨⟨S5.g.k,S5.g.f,S5.g.a,rfl⟩,S5.r.pw (Qf _ _ _).symm,S5.h,λo x hx=>?_⟩ n1 n2 u5,li⟩))))
     have hm:(x.1,x.2.1)∈(b8 er).toList.map (λx=>(x.1,x.2.1)):=by
      rw[<-Qf];exact List.mem_map.mpr ⟨x,hx,rfl⟩
     obtain⟨y,hy,e⟩:=List.mem_map.mp hm;have e1:=congrArg Prod.fst e;have e2:=congrArg Prod.snd e;dsimp only at e1 e2;rw[<-e1,<-e2];exact S5.u o y hy
 ·rintro c dM ⟨lo,rfl,S,kx⟩;have gh:=S.h
  have:lo=a0.length:=by
   have:max 0 (arrOf st).size<=lo:=kx;lia
  subst this;exact⟨rfl,S⟩
 ·rintro c dM ⟨rfl,S⟩
  have qP:∀{l:List (Nat×Nat×Nat)} {i j:Nat},Runs l i j->i+l.length<=j:=λ{l}=>by
   induction l with
   | nil=>exact λh=>nz h
   | cons x l ih=>exact λh=>by have:=ih h.2.2;have:=h.2.1;rw[List.length_cons];lia
  have hle:=qP S.r;rw[dj]at hle;refine aN (rD (nv (I:=λi c ak=>c=(b_,())/\SS O rk κ a0 a0.length ak/\((b8 ak).size<=1\/(b8 ak).size+i<=a0.length)) (Q:=λc ak=>c=(b_,())/\SS O rk κ a0 a0.length ak/\(b8 ak).size<=1) ?_ ?_ ⟨rfl,S,.inr li⟩) ?_)
  ·rintro i c du _ hi ⟨rfl,S2,h2⟩;refine aN (wpS_get (cE (λe=>aS ⟨rfl,S2,e⟩) λe=>?_));have e':=e;exact aN (S2.merge C (adS li li) λgD S3 w3 _=>cE (λz=>absurd z qc) λ_=>aS ⟨rfl,S3,.inr li⟩)
  ·rintro c du ⟨rfl,S2,h2⟩;refine⟨rfl,S2,h2.elim id λh=>?_⟩;have:(b8 du).size+max 0 (arrOf st).size<=a0.length:=h;lia
  ·rintro c du ⟨rfl,S2,h2⟩;refine aS (q du S2.g.f S2.g.a λo=>?_);have r:=S2.r;have u:=S2.u o;have z2:=S2.g.size;rw[<-dj]at h2;cases hq:(b8 du).toList with
   | nil=>
    rw[hq]at r;have r:0=a0.length:=r;rw[List.eq_nil_of_length_eq_zero (l:=(arrOf du).toList) (by rw[dj];lia)];exact List.Pairwise.nil
   | cons x l=>
    rw[hq]at r u h2;cases l with
    | cons y l=>exact absurd h2 (by simp)
    | nil=>
     obtain⟨b,n,p⟩:=x;obtain⟨rfl,_,e⟩:=r;have e:0+n=a0.length:=e;have:=u _ List.mem_cons_self;unfold seg at this;rw[List.drop_zero,List.take_of_length_le (by rw[dj];dsimp only;lia)]at this;exact this
end TS
open PySem.W L2
namespace TS
section
variable{P:l_}{w:k_}{A:h_}{E:f_->g_->Prop}{s:g_}{κ:jx}{vs:List f_}{O:Prop}{rk:f_->Int}
def Ask(P:l_)(w:k_)(A:h_)(κ:jx)(vs:List f_)(O:Prop)(rk:f_->Int)(s:g_):Prop:=∀x y (C:Bool->g_->Prop),x∈vs->y∈vs->(∀b,(O->b=decide (rk x<rk y))->C b s)->wpAny (model P w) A (keyLt' κ x y) C (λ_ _=>False) s
theorem ad'(ask:Ask P w A κ vs O rk s):o7 (model P w) A E s κ (vs.zip vs) O λx=>rk x.1:=λst x y Q hκ hx hy q=>by
 have a:=ask x.1 y.1 (λb s'=>s'=s/\(O->b=decide (rk x.1<rk y.1))) (List.of_mem_zip hx).1 (List.of_mem_zip hy).1 λ_ h=>⟨rfl,h⟩;rw[lt'_eq];refine aN (wpS_get (aN (wpS_lift (FY ?_))));rw[hκ];exact gG a (λb s' h=>⟨h.1,aS (q b h.2)⟩) λ_ _ z=>z.elim
theorem G'{x:Keyed}:∀{vs:List f_},x∈vs.zip vs->x.1=x.2
 | [],h=>by cases h
 | v::vs,h=>(List.mem_cons.mp h).elim (λe=>by rw[e]) G'
theorem ZY(nd:O->(vs.map rk).Nodup)(ask:Ask P w A κ vs O rk s){Q:Unit×SortSt->g_->Prop}(q:∀(st:SortSt),((arrOf st).map (·.2)).toList.Perm vs->(O->((arrOf st).map (·.2)).toList.Pairwise λx y=>rk x<=rk y)->nB st=b_->Q ((),st) s) :
  wpAny (model P w) A (sortRuns'.run (Gp κ (vs.toArray.zip vs.toArray) #[] 7 b_)) Q E s:=by
 have ez:(arrOf (Gp κ (vs.toArray.zip vs.toArray) #[] 7 b_)).toList=vs.zip vs:=by
  show (vs.toArray.zip vs.toArray).toList=vs.zip vs;rw[XC]
 have key:=aby (E:=E) (ad' (E:=E) ask) (λo=>by
  have:(vs.zip vs).map (λx=>rk x.1)=vs.map rk:=by rw[show (λx:Keyed=>rk x.1)=rk ∘ Prod.fst from rfl,<-List.map_map,List.map_fst_zip (aw _)]
  rw[this];exact nd o) (st:=Gp κ (vs.toArray.zip vs.toArray) #[] 7 b_) (Q:=λ_ st=>Q ((),st) s) rfl rfl rfl ez (λst k2 pm u=>q st (by
  rw[M0];have:=pm.map (·.2);rwa[List.map_snd_zip (aw _)]at this) (λo=>by
  rw[M0,List.pairwise_map];exact(u o).imp_of_mem λhx hy h=>by dsimp only at h;rw[G' (pm.mem_iff.mp hx),G' (pm.mem_iff.mp hy)]at h;exact h) k2)
 exact gG key (λa s' h=>by rw[h.1];exact h.2) λ_ _ z=>z
theorem Y1{n:Nat}{R:PySem.Fin->g_->Prop}(ho:s.heap.get? a=a_ (seqObj "list" vs.toArray n))(h1:2<=vs.length)(line:vs.length<=a9)(nd:O->(vs.map rk).Nodup)
  (hk:∀s':g_,(∀b o,b≠a->s.heap.get? b=a_ o->s'.heap.get? b=a_ o)->(∀Q:jx->g_->Prop,Q κ s'->wpAny (model P w) A (keyKind' vs.toArray) Q (λ_ _=>False) s')/\Ask P w A κ vs O rk s')
  (k:∀h' e (out:List f_),out.Perm vs->(O->out.Pairwise λx y=>rk x<=rk y)->(∀b o,b≠a->s.heap.get? b=a_ o->h'.get? b=a_ o)->h'.get? a=a_ (seqObj "list" out.toArray e)->R (.done (.ret .none)) { s with heap:=h' }) :
  wpAny (model P w) A (Builtin.«list.sort» ⟨[.ref a],[]⟩) R E s:=by
 have la:=bq ho;have hn:¬vs.toArray.size<2:=by rw[List.size_toArray];lia
 have zs:vs.toArray.size<=a9:=by rw[List.size_toArray];exact line
 obtain⟨e1,q1⟩:∃e1,(s.heap.update a (kM λ_=>(#[]:Array f_))).get? a=a_ (seqObj "list" #[] e1):=⟨_,BW ho λ_=>#[]⟩;rw[list_sort_plain];refine aj (listItems_at ho rfl (aj (FZ ho rfl (aj (Gb q1 rfl (aj (Nh (aj (FX (jw ?_) (aP _))) (by simpa using zs))))) zs (aP _))));have q3:=aY (seqObj "list" #[] 0) (aY (seqObj "tuple" vs.toArray 0) q1);have kp:∀b o,b≠a->s.heap.get? b=a_ o->(((s.heap.update a (kM λ_=>(#[]:Array f_))).push (seqObj "tuple" vs.toArray 0)).push (seqObj "list" #[] 0)).get? b=a_ o:=λb o hb e=>aY _ (aY _ (by rw[BR _ _ _ _ hb];exact e));dsimp only;rw[if_neg hn,if_neg hn];have hq:=hk { s with heap:=((s.heap.update a (kM λ_=>(#[]:Array f_))).push (seqObj "tuple" vs.toArray 0)).push (seqObj "list" #[] 0) } kp;refine aj (gG (hq.1 _ ?_) (λ_ _ z=>z) λ_ _ z=>z.elim);refine aj (ZY nd hq.2 λst pm up ef=>?_);dsimp only;rw[show (arrOf st).map (·.2)=((arrOf st).map (·.2)).toList.toArray from Xg.symm];generalize ((arrOf st).map (·.2)).toList=out at pm up ⊢;refine aj (Gb q3 rfl (aj (FZ q3 rfl ?_ (aP _) (cx (by rw[List.size_toArray,pm.length_eq];exact line) (kJ _)))));rw[ef];rw[if_neg (by simp)];refine aM (k _ _ _ pm up (λb o hb e=>?_) (BW q3 λ_=>out.toArray));rw[BR _ _ _ _ hb];exact kp b o hb e
end
end TS
namespace L2
open PySem.W
section
variable{P:l_}{w:k_}{A:h_}{E:f_->g_->Prop}{s:g_}{Q:Bool->g_->Prop}
theorem afn{a b:Int}{t u:Tok}(q:Q (decide (a<b)) s):wpAny (model P w) A (oneLt' d_ (eX a t) (eX b u)) Q E s:=by
 rw[oneLt'_eq];dsimp only;rw[if_neg qc];refine aj (PyProof.Rows.lt_int (?_:wpAny _ _ _ _ _ _):wpAny (model P w) A (fw .Lt (.int a t) (.int b u)) _ E s);exact ni q
theorem afm{t u:Tok}(q:Q (decide (a.cps.toList<b.cps.toList)) s):wpAny (model P w) A (oneLt' d_ (vw a t) (vw b u)) Q E s:=by
 rw[oneLt'_eq];dsimp only;rw[if_neg qc];refine aj (PyProof.Rows.lt_str (?_:wpAny _ _ _ _ _ _):wpAny (model P w) A (fw .Lt (.str a t) (.str b u)) _ E s);exact ni q
theorem ag5{f:Bool}{a b c d:Int}{t1 t2 t3 u1 u2 u3:Tok}(q:∀b,Q b s):KatLex P w A c_ f Q ([eX a t1,eX b t2,vw x t3].zip [eX c u1,eX d u2,vw y u3]) 0 s:=by
 refine kat_cons (MX ?_);cases a == c
 ·exact kat_no (oneLt_int (q _))
 ·refine kat_yes (kat_cons (MX ?_));cases b == d
  ·exact kat_no (afn (q _))
  ·refine kat_yes (kat_cons (wpAny_eqBool_str ?_));cases decide (x=y)
   ·exact kat_no (afm (q _))
   ·exact kat_yes (kat_nil (q _))
end
theorem Sy{α β:Type}{F:α->β->Prop}{us zs:List α}(h:zs.Perm us):∀{L:List β},Paired F us L->∃B,B.Perm L/\Paired F zs B:=by
 induction h with
 | nil=>exact λ{L} r=>⟨L,List.Perm.refl _,r⟩
 | cons x p ih=>
  intro L r;cases r with
  | cons a r=>exact ai (ih r) λzs h1 h2=>⟨_::zs,h1.cons _,.cons a h2⟩
 | swap x y l=>
  intro L r;cases r with
  | cons a r=>
   cases r with
   | cons b r=>exact⟨_,List.Perm.swap _ _ _,.cons b (.cons a r)⟩
 | trans p q LC LB=>exact λ{L} r=>ai (LB r) λzs h1 h2=>ai (LC h2) λys h3 h4=>⟨ys,h3.trans h1,h4⟩
theorem Dx{α β:Type}{F:α->β->Prop}:∀{a:List α} {b:List β},Paired F a b->Paired (λy x=>F x y) b a
 | _,_,.nil=>.nil
 | _,_,.cons h r=>.cons h (Dx r)
abbrev T3:=Int×Int×Str
def Um(h:j_)(v:f_):Prop:=∃a o ws n i j x t u y,v=.ref a/\h.get? a=a_ o/\o.cls=.type "tuple"/\o.data=.seq ws n/\ws.toList=[eX i t,eX j u,vw x y]
theorem SF:∀{l:List f_},(∀v∈l,Um h v)->∃fs:List f_,fs.length=l.length/\KatTups h l fs/\∀v∈fs,∃i t,v=eX i t
 | [],_=>⟨[],rfl,.nil,λv hv=>nomatch hv⟩
 | v::l,g=>by
  obtain⟨fs,h1,h2,h3⟩:=SF λu hu=>g u (List.mem_cons_of_mem _ hu);obtain⟨a,o,ws,n,i,j,x,t,u,y,rfl,e2,e3,e4,e6⟩:=g v List.mem_cons_self;refine⟨_::fs,by rw[List.length_cons,List.length_cons,h1],.cons e2 e3 e4 (f:=eX i t) (by rw[<-pN,e6];rfl) h2,λv hv=>?_⟩;rcases List.mem_cons.mp hv with z | z
  ·exact⟨_,_,z⟩
  ·exact h3 v z
section
variable{X:Cx}
theorem NK{O:Prop}{rk:f_->Int}{κ:jx}(I:Inv X p_ σ H s)(hl:ae X.K H p ys)(hz:ys.length<a9)
  (q:∀its,Vals ys its->(O->(its.map rk).Nodup)/\(∀(A:h_) (s':g_),2<=its.length->(∀b o,s.heap.get? b=a_ o->s'.heap.get? b=a_ o)->(∀Q:jx->g_->Prop,Q κ s'->wpAny (model X.prog X.w) A (keyKind' its.toArray) Q (λ_ _=>False) s')/\TS.Ask X.prog X.w A κ its O rk s')/\
   ∀l zs out,H l=b_->zs.Perm ys->Vals zs out->(O->out.Pairwise λx y=>rk x<=rk y)->Q (.ref l) (upd H l (.lst zs))):wpAny (model X.prog X.w) X.A (call (.builtin "sorted") [.ref p]) (EP X p_ σ Q) X.xe s:=by
 obtain⟨its,pf,pl,_⟩:=I.list hl;have hlen:=pf.length;obtain⟨nd,ask,q⟩:=q its pf;refine Calls.call_function_entry kind_sorted plain_sorted entry_sorted (args_sorted1 _) ?_;unfold Builtin.«sorted»;refine aj (aM (a:=()) (aj (collect_list pl.isList ?_ li)))
 have wO:∀b o,s.heap.get? b=a_ o->((s.heap.push (seqObj "list" #[] 0)).update s.heap.objs.size (kM (· ++ its.toArray))).get? b=a_ o:=λb o e=>by
  rw[BR _ _ _ _ (cI (bq e))];exact aY _ e
 have I:=I.kept (t':=s.toks) wO;generalize (s.heap.push (seqObj "list" #[] 0)).update s.heap.objs.size (kM (· ++ its.toArray))=iQ at I wO ⊢;refine aj (FX ?_ li);have q0:(iQ.push (seqObj "list" its.toArray 0)).get? iQ.objs.size=a_ (seqObj "list" its.toArray 0):=dw _ rfl;obtain⟨m,F0⟩:=I.fr;refine aj (jw (xE slot_list_sort ⟨_,q0,rfl⟩ entry_list_sort ?_ (args_list_sort _)));have kp:∀b o,iQ.get? b=a_ o->(iQ.push (seqObj "list" its.toArray 0)).get? b=a_ o:=λb o e=>aY _ e;have ne:∀b o,iQ.get? b=a_ o->b≠iQ.objs.size:=λb o z=>cI (bq z)
 have fin:∀(h2:j_) (c:Nat) (out:List f_),out.Perm its->(O->out.Pairwise λx y=>rk x<=rk y)->(∀b o,b≠iQ.objs.size->(iQ.push (seqObj "list" its.toArray 0)).get? b=a_ o->h2.get? b=a_ o)->h2.get? iQ.objs.size=a_ (seqObj "list" out.toArray c)->EP X p_ σ Q (.ref iQ.objs.size) { s with heap:=h2 }:=λh2 c out pm up k2 e2=>by
  obtain⟨zs,h1,v2⟩:=Sy pm (Dx pf);have hn:H iQ.objs.size=none:=I.aD.fresh (aw _);have f:=I.iM (b:=iQ.objs.size) (aw _) hn
  have n2:h2.Ns X.env.locals m:=by
   obtain⟨o,es,ep,z,rr⟩:=F0.ns;exact⟨o,es,ep,k2 _ _ (ne _ _ z) (kp _ _ z),rr⟩
  have J:=Inv.regrown (t':=s.toks) (d':=s.drawn) I F0.ns n2 λb o _ z=>k2 b o (ne b o z) (kp b o z);exact⟨.ref iQ.objs.size,_,Inv.adopt (o:=.lst zs) J hn I.sz f.2.1 f.2.2.2.2.1 f.2.2.2.2.2 ⟨by rw[h1.length_eq];lia,out,c,Dx v2,e2⟩,rfl,q _ _ _ hn h1 (Dx v2) up⟩
 by_cases h2:its.length<2
 ·refine Yo (s:={ s with heap:=iQ.push (seqObj "list" its.toArray 0) }) q0 h2 λh' e k' e'=>⟨_,rfl,aM ⟨_,rfl,fin h' e its (List.Perm.refl _) (λ_=>?_) k' e'⟩⟩;rw[List.pairwise_iff_getElem];intro i j hi hj sS;lia
 ·exact TS.Y1 (κ:=κ) (rk:=rk) (s:={ s with heap:=iQ.push (seqObj "list" its.toArray 0) }) q0 li li nd (λs' kk=>ask _ s' li λb o e=>kk _ _ (ne _ _ (wO _ _ e)) (kp _ _ (wO _ _ e))) λh' e out pm up k' e'=>⟨_,rfl,aM ⟨_,rfl,fin h' e out pm up k' e'⟩⟩
def QU(K:u_):List V->Hp->VK->Prop:=λxs H Q=>∃(p:e_) (ys:List V),xs=[.ref p]/\ae K H p ys/\ys.length<a9/\(∀v∈ys,∃a i j x,v=.ref a/\aB K H a [.int i,.int j,.str x])/\∀l zs,H l=b_->List.Perm zs ys->Q (.ref l) (upd H l (.lst zs))
theorem Nt:jC X (.builtin "sorted") (QU X.K):=by
 intro p_ s σ H xs us Q I r h;obtain⟨p,ys,rfl,hl,hz,ht,q⟩:=h;obtain⟨u,rfl,rx⟩:=vals1 r;cases rx;refine NK (O:=False) (rk:=λ_=>0) (κ:=tuples' c_) I hl hz λits pf=>⟨λz=>z.elim,λA s' h2 kk=>?_,λl zs _ hn hp _ _=>q l zs hn hp⟩;have hlen:=pf.length
 have at':∀v∈its,Um s'.heap v:=λv hv=>by
  obtain⟨i,hi,ev⟩:=List.getElem_of_mem hv;obtain⟨a,i',j,x,ey,e2⟩:=ht _ (List.getElem_mem (l:=ys) (n:=i) li);obtain⟨u,hu,ry⟩:=pf.get (List.getElem?_eq_getElem (l:=ys) (i:=i) li);rw[List.getElem?_eq_getElem hi,ev]at hu;cases hu;rw[ey]at ry;obtain⟨vs,rv2,⟨o,eo,co,n,do_⟩,_⟩:=I.tuple e2;cases ry;cases rv2 with
  | cons ra rr=>
   cases rr with
   | cons rb rr=>
    cases rr with
    | cons rc rr=>
     cases rr;obtain⟨t1,rfl⟩:=ra;obtain⟨t2,rfl⟩:=rb;obtain⟨t3,rfl⟩:=rc;exact⟨a,o,_,n,i',j,x,t1,t2,t3,rfl,kk _ _ eo,co,do_,rfl⟩
 refine⟨λQ' hQ=>?_,λx y C hx hy c=>?_⟩
 ·obtain⟨fs,h1,h4,h3⟩:=SF at';refine kat_kind (T:=.type "int") h4 li (λv hv=>?_) qc (by rw[show (pY "int" != pY "tuple")=c_ by decide];exact hQ);obtain⟨i,t,e⟩:=h3 v hv;rw[e];exact Yi _ _ _ _
 ·obtain⟨a,o,ws,n,i,j,x,t,u,y,rfl,e2,e3,e4,e5⟩:=at' _ hx;obtain⟨a',o',Lc,n',i',j',x',t',u',y',rfl,e2',Ws,e4',e5'⟩:=at' _ hy;refine kat_lt e2 e4 e2' e4' ?_;rw[e5,e5'];exact ag5 λb=>c b λz=>z.elim
def ade(K:u_):List V->Hp->VK->Prop:=λxs H Q=>∃(a:e_) (ns:List Int),xs=[.ref a]/\ae K H a (ns.map V.int)/\ns.length<a9/\ns.Nodup/\∀l zs,H l=b_->List.Perm zs ns->zs.Pairwise (·<=·)->Q (.ref l) (upd H l (.lst (zs.map V.int)))
def vI:f_->Int
 | .int i _=>i
 | _=>0
def vN:V->Int
 | .int i=>i
 | _=>0
theorem HK:∀{ns:List Int} {vs:List f_},Vals (ns.map V.int) vs->vs.map vI=ns
 | [],_,.nil=>rfl
 | n::ns,_,.cons h r=>by
  obtain⟨t,rfl⟩:=h;rw[List.map_cons,HK r];rfl
theorem X4:jC X (.builtin "sorted") (ade X.K):=by
 intro p_ s σ H xs us Q I r h;obtain⟨p,ns,rfl,hl,hz,nd,q⟩:=h;obtain⟨u,rfl,rx⟩:=vals1 r;cases rx;refine NK (O:=True) (rk:=vI) (κ:=oneType') I hl (by rw[List.length_map];exact hz) λits pf=>⟨λ_=>by rw[HK pf];exact nd,λA s' h2 kk=>⟨λQ' hQ=>?_,λx y C hx hy c=>?_⟩,λl zs out hn hp hv up=>?_⟩
 ·rw[ksk_kind (kz:=ns) (by rw[List.toList_toArray];exact intsAre_of pf) (by rw[List.size_toArray];exact h2)];exact aM hQ
 ·have sr:∀v∈its,∃i t,v=eX i t:=λv hv=>by
   obtain⟨i,hi,ev⟩:=List.getElem_of_mem hv;have hlen:=pf.length;obtain⟨u,hu,ry⟩:=pf.get (List.getElem?_eq_getElem (l:=ns.map V.int) (i:=i) li);rw[List.getElem?_eq_getElem hi,ev]at hu;cases hu;rw[List.getElem_map]at ry;obtain⟨t,e⟩:=ry;exact⟨_,t,e⟩
  obtain⟨i,t,rfl⟩:=sr x hx;obtain⟨j,u,rfl⟩:=sr y hy;rw[keyLt'_oneType];exact oneLt_int (c _ λ_=>rfl)
 ·obtain⟨ms,h1,h2⟩:∃ms:List Int,zs=ms.map V.int/\ms.Perm ns:=by
   have h3:∀v∈zs,∃i,v=V.int i:=λv hv=>ai (List.mem_map.mp (hp.mem_iff.mp hv)) λi _ e=>⟨i,e.symm⟩;refine⟨zs.map vN,?_,by simpa[Function.comp_def,vN]using hp.map vN⟩;rw[List.map_map];refine((List.map_congr_left (g:=id) λv hv=>?_).trans (List.map_id _)).symm;obtain⟨i,rfl⟩:=h3 v hv;rfl
  subst h1;refine q l ms hn h2 ?_;have:=up trivial;rw[<-HK hv,List.pairwise_map];exact this
end
end L2
namespace TL
open L2 L3
theorem B7{α β:Type}{F:α->β->Prop}:∀{l:List α} {r:List β} {i:Nat} {x:α},Paired F l r->l[i]?=a_ x->∃y,r[i]?=a_ y/\F x y
 | _,_,_,_,.nil,e=>by simp at e
 | _,_,0,_,.cons h _,e=>by simp at e;subst e;exact⟨_,rfl,h⟩
 | _,_,i+1,x,.cons _ t,e=>by
  exact ai (B7 (i:=i) t (by simpa using e)) λy h1 h2=>aA y (by simpa using h1) h2
def Ui:TG:=λ_ _ _ _=>False
theorem ae0{X:Cx}:PG X g Ui:=λ_ _ _ _ _ _ _ _ _ h=>h.elim
theorem afz{n:Nat}:yq n Ui:=λ_ _ _ _ h=>h.elim
theorem ae2{X:Cx}:PE X e λ_ _ _=>False:=λ_ _ _ _ _ _ h=>h.elim
section
variable{P:l_}{w:k_}{K:u_}{mg:Str->Option f_}{base:j_}
def OV(C:e_):Sp:=λvs H Q _=>∃a kd tn q qr,vs=[.ref a]/\c9 H a C kd tn [] q qr/\∀H' l,ah H H'->H' l=a_ (.lst [])->Q (.ref l) H'
theorem Gr:bf ["self","waiting","queue"] zLf (aR Hk):=bz
theorem Yw(F:aU K "listed" "Tray.listed" Hk f fd)(B:BT mg)(cT:ke K C):ax P w K mg base ay 1 f fd zLf (OV C):=by
 refine F.ok Gr λaL A _ s H vs Q E hr h=>?_
 ·refine fj h λa kd tn q qr aa=>dg aa λaa T k=>?_;subst aa
  refine let R1:TS:=_;let R2:TS:=_;let R3:TS:=_;⟨_,ar (bp (i:=1) Gr.nd rfl (aF rfl) (dy af)) (pR R3 (ar (hV gr rfl (nC (cc (pv 0) rfl)) (bb (i:=2) Gr.nd rfl (aF rfl)) (pR R1 (aG (dq (iK m_ PySem.F.slot_list_extend PySem.F.type_list_extend Cf (pv 1) (ab (pv 2) af)))))) (pR R2 (aG (bg (g6 (N:=["turn","setting"]) (idx:=[]) rfl (cZ.of (by kernel_rfl)) afz (nC (bw Nt rfl B.sorted boot_sorted (ab (pv 1) af)))
    (λ_ _ _ _=>ae0) (λ_ _ _ _=>gZ) λ_ _ _ _=>ae2)))))),?_⟩
  refine dX (id T.obj) λdx fs ea e1 e2 e3 em el=>⟨qc,λlw nw=>?_⟩;have s0:ah H (upd H lw (.lst [])):=aE (ah.refl _) nw;refine aA _ rfl (dY a C dx fs (jy _ rfl (s0 _ _ ea) cT.cl cT.tO e3 ⟨q,rfl,⟨_,ae.of (s0 _ _ T.qs)⟩,?_⟩))
  let W1:IV:=λi σ H'=>∃qx,σ=[a_ (.ref a),a_ (.ref lw),qx]/\ah H H'/\H' lw=a_ (.lst [])
  refine x9 (xs:=qr.map V.ref) W1 ⟨b_,rfl,s0,ao⟩ ?_ ?_ ?_
  ·rintro i σ H' _ ⟨qx,rfl,sm,_⟩;exact ae.of (sm _ _ T.qs)
  ·rintro i x σ H' hx ⟨qx,rfl,sm,hw⟩;rw[List.getElem?_map]at hx;refine ai (lN.mp hx) λb hb aa=>ai (T.i7 i b hb) λvs h1 h2=>?_;subst aa;cases h2;refine vr rfl ⟨.inl ⟨rfl,_,ae.of hw⟩,⟨_,rfl,lw,b,_,_,rfl,rfl,hw,sm _ _ h1,sl (n:=0),⟨_,rfl,λc o e=>?_,ao⟩⟩⟩;rw[ag (cG e nw)];exact sm _ _ e
  ·rintro σ H' ⟨qx,rfl,sm,hw⟩;refine vr rfl ⟨lw,[],rfl,ae.of hw,qc,λv hv=>(by cases hv),λls zs hn hp=>?_⟩;cases List.perm_nil.mp hp;have s1:ah H' (upd H' ls (.lst [])):=aE (ah.refl _) hn;refine dQ ls rfl ⟨_,ae.of ao⟩ (eN (n:=0) (λi ys H2=>ys=[]/\H2=upd H' ls (.lst [])) (sl (n:=0)) ⟨rfl,rfl⟩ (λi ys H2 z=>?_) (λi ys H2 z=>absurd z (pO _)) (λys H2 z=>?_) (λi ys H2 z=>absurd z (pO _)) λys H2 z=>?_)
   ·rw[z.1];exact aP _
   ·exact aA [] (ae.of (by rw[z.2];exact ao)) (aw _)
   ·rw[z.1,z.2];exact⟨sl (n:=0),λlr nr=>k _ lr (sm.trans (aE s1 nr)) ao⟩
end
end TL
namespace L2
section
variable{X:Cx}
def aeZ(K:u_):List V->Hp->VK->Prop:=λxs H Q=>∃(p:e_) (ns:List Int),xs=[.ref p]/\ae K H p (ns.map V.int)/\ns≠[]/\∀M,M∈ns->(∀a∈ns,M<=a)->Q (.int M) H
theorem OH(hc:X.calm=c_):jC X (.builtin "min") (aeZ X.K):=by
 intro p_ s σ H xs us Q I r h;refine ic h λp ns e hq ahL q=>?_;subst e;refine ai (vals1 r) λu aa rx=>?_;subst aa;cases rx;refine aO (I.list hq) λits rv pl hz=>?_;have hi:=intsAre_of rv;have hlen:its.length=ns.length:=by have:=rv.length;rw[List.length_map]at this;exact this.symm
 have eA:p≠s.heap.objs.size:=by
  exact ai pl.isList λo e _=>cI (bq e)
 have qE:0<its.toArray.size:=by
  rw[List.size_toArray,hlen];exact List.length_pos_iff.mpr ahL
 have yB:∀i v,its.toArray[i]?=a_ v->∃t,v=eX (ns.getD i 0) t:=λi v hv=>by
  have EV:its[i]?=a_ v:=by simpa using hv
  have ze:i<its.length:=(List.getElem?_eq_some_iff.mp EV).1
  obtain⟨u,hu,ru⟩:=rv.get (i:=i) (x:=V.int (ns.getD i 0)) (by
   rw[List.getElem?_map,List.getElem?_eq_getElem wf,List.getD_eq_getElem?_getD,List.getElem?_eq_getElem wf];rfl)
  rw[EV]at hu;cases hu;exact ru
 refine call_min_walk (xC pl.isList (⟨_,_,_,_,_,_,(⟨_,rfl,(Ca (show X.A.in1.handled=b_ from I.ok.hd hc) _ p eA its.toArray),⟨⟨_,dw _ rfl,rfl,rfl⟩,pl.isList.push _⟩,?_,qE,(CmpOf.ints_lt (λi=>ns.getD i 0) yB),(λv h' tk hv kk=>?_)⟩)⟩))
 ·intro b hb;refine ai pl.isList λo e _=>?_;have bG:=bq e;have hsz:(s.heap.push { cls:=.type "list_iterator",data:=.fields #[.ref p,.int 0 0] }).objs.size=s.heap.objs.size+1:=lO _ _;have xq:b=s.heap.objs.size\/b=p:=by simpa using hb
  rw[hsz];rcases xq with e | e
  ·rw[e];exact zH _
  ·rw[e];exact zF bG
 ·refine oE (yB _ _ hv) λt aa=>?_;subst aa;refine oA (argBest_lt (λi=>ns.getD i 0) (its.toArray.size-1)) λh1 h2=>?_;rw[List.size_toArray,hlen]at h1 h2 qE ⊢;refine dZ (.int _) H (I.kept λb o e=>kk b o (λz=>?_) (aY _ e)) ⟨t,rfl⟩ (q _ ?_ λa ha=>?_)
  ·have z':b=s.heap.objs.size:=by simpa using z
   rw[z']at e;exact absurd (bq e) (nu _)
  ·show ns.getD _ 0∈ns;rw[List.getD_eq_getElem?_getD,List.getElem?_eq_getElem om];exact List.getElem_mem _
  ·refine oE (List.getElem_of_mem ha) λj aa=>oE aa λhj e=>?_;have:=h2 j om;have e2:ns.getD j 0=a:=by rw[List.getD_eq_getElem?_getD,List.getElem?_eq_getElem hj,e];rfl
   rw[e2]at this;exact this
end
end L2
namespace L2
open PySem.W
section
variable{X:Cx}
def abT:List V->Hp->VK->Prop:=λvs H Q=>∃n:Nat,vs=[.int (n:Nat)]/\n<=3000/\∀l,H l=b_->Q (.ref l) (upd H l (.lst ((List.range n).map λ(i:Nat)=>V.int (i:Nat))))
theorem Yh:∀{n:Nat},vs.length=n->(∀(j:Nat) v,vs[j]?=a_ v->∃t,v=eX (0+(j:Int)*1) t)->Vals ((List.range n).map λ(i:Nat)=>V.int (i:Nat)) vs:=by
 intro n hn h
 have g:∀(l:List f_) (k:Nat),(∀(j:Nat) v,l[j]?=a_ v->∃t,v=eX ((k+j:Nat):Int) t)->Vals ((List.range' k l.length).map λ(i:Nat)=>V.int (i:Nat)) l:=by
  intro l
  induction l with
  | nil=>intro k _;exact .nil
  | cons v l ih=>
   intro k hk;refine .cons ?_ (ih (k+1) λj v e=>?_)
   ·obtain⟨t,e⟩:=hk 0 v rfl;exact⟨t,e⟩
   ·obtain⟨t,e⟩:=hk (j+1) v (by simpa using e);exact⟨t,by rw[e];congr 1;lia⟩
 rw[List.range_eq_range',<-hn]
 exact g vs 0 λj v e=>by
  obtain⟨t,z⟩:=h j v e;exact⟨t,by rw[z];congr 1;lia⟩
theorem aah(hc:X.calm=c_)(hl:Gl X "list")(LR:X.mg "list" = b_)(hg:Gl X "range")(hm:X.mg "range" = b_)(ha:PA X [a] ta)(hs:cA [a] X.env=[(d_,eval a X.env)]:=by rfl)
  (pE:cA [.Call (.Name "range" p2) [a] [] sg] X.env=[(d_,eval (.Call (.Name "range" p2) [a] [] sg) X.env)]:=by rfl):PE X (.Call (.Name "list" p) [.Call (.Name "range" p2) [a] [] sg] [] pos) (Ec abT ta):=by
 intro p_ s σ H Q I h;refine tj (oH I hl LR G9 ?_ qc qc);refine vg ?_ pE rfl;rw[pE];show wpAny _ _ (spliced ((d_,eval (.Call (.Name "range" p2) [a] [] sg) X.env)::backTo pos [])) _ _ s;refine vj (tj (oH I hg hm boot_range (vg (AV (ha sg p_ s σ H _ I h) λus s1 vs H1 I1 r1 q1=>?_) hs rfl) qc qc));obtain⟨n,rfl,hn,q⟩:=q1;obtain⟨u,rfl,rx⟩:=vals1 r1;obtain⟨t,rfl⟩:=rx;refine call_range_1 (zG ?_);have I2:Inv X p_ σ H1 { s1 with heap:=s1.heap.push { cls:=.type "range",data:=.fields #[.int 0 s1.toks,.int (n:Nat) t,.int 1 (s1.toks+1)] },toks:=s1.toks+1+1 }:=I1.kept λb o e=>aY _ e;refine call_list_range (n:=n) (I2.ok.hd hc) (IsRange.new ..) (small_one qc qc li li) (by rw[rangeSize_one];split <;> lia) li λh' tk acc c' k e it=>?_;refine⟨.ref _,_,I2.laid (t':=tk) k (aw _) (show de X.prog X.w _ h' _ (.lst ((List.range n).map λ(i:Nat)=>V.int (i:Nat))) from ⟨by rw[List.length_map,List.length_range,eM];lia,acc.toList,c',Yh (by rw[dj];exact it.1) λj v e=>it.2 j v (by rw[<-pN];exact e),by rw[Xg];exact e⟩),rfl,q _ (I2.aD.fresh (aw _))⟩
end
end L2
namespace L2
section
variable{X:Cx}
theorem ZM:jC X (.builtin "len") (λxs H Q=>∃a ns,xs=[.ref a]/\H a=a_ (AH X.prog X.w a ns)/\ns.length<=4000/\Q (.int (ns.length:Nat)) H):=by
 intro p_ s σ H xs us Q I r h;obtain⟨a,ns,rfl,ha,hz,q⟩:=h;obtain⟨u,rfl,rx⟩:=vals1 r;cases rx;obtain⟨o,es,ep,t,ks,h1,h2,h3,h4,h5,h6,h7,h8⟩:kh X.prog X.w s.heap a ns:=(I.aD a _ ha).1;have hn:es.size=ns.length:=by rw[<-dj,r_ h4,h5.length_eq]
 exact call_len_set h1 h2 h3 h7 (by rw[hn];lia) ⟨.int (ns.length:Nat),H,(I.tok _).tok _,⟨s.toks+1,by rw[hn]⟩,q⟩
end
section
variable{κ:Type}[DecidableEq κ]
def bh(kvs:List (κ×V))(k:κ):Option V:=(kvs.find? λkv=>decide (kv.1=k)).map (·.2)
def putK(kvs:List (κ×V))(k:κ)(v:V):List (κ×V):=
 if (kvs.any λkv=>decide (kv.1=k))=c_ then kvs.map (λkv=>if kv.1=k then (kv.1,v) else kv) else kvs++[(k,v)]
theorem ZU{k:κ}:bh ([]:List (κ×V)) k=none:=rfl
theorem ow{p:κ×V}{r:List (κ×V)}{k:κ}(e:p.1=k):bh (p::r) k=a_ p.2:=by simp[bh,List.find?_cons,e]
theorem ox{p:κ×V}{r:List (κ×V)}{k:κ}(e:¬p.1=k):bh (p::r) k=bh r k:=by simp[bh,List.find?_cons,e]
theorem xX(k:κ):∀kvs:List (κ×V),(kvs.any λkv=>decide (kv.1=k))=(bh kvs k).isSome
 | []=>rfl
 | p::r=>by
  rw[List.any_cons]
  by_cases e:p.1=k
  ·simp only[ow e,decide_eq_true e,Bool.true_or,Option.isSome_some]
  ·rw[ox e,decide_eq_false e,Bool.false_or];exact xX k r
theorem OP(k j:κ)(y:V):∀kvs:List (κ×V),bh (kvs.map λkv=>if kv.1=k then (kv.1,y) else kv) j=(bh kvs j).map λx=>if j=k then y else x
 | []=>rfl
 | p::r=>by
  have ih:=OP k j y r;rw[List.map_cons]
  by_cases h:p.1=k
  ·rw[if_pos h]
   by_cases e:p.1=j
   ·rw[ow (p:=(p.1,y)) e,ow e,FJ,if_pos (e.symm.trans h)]
   ·rw[ox (p:=(p.1,y)) e,ox e,ih]
  ·rw[if_neg h]
   by_cases e:p.1=j
   ·rw[ow (p:=p) e,ow e,FJ,if_neg λz=>h (e.trans z)]
   ·rw[ox (p:=p) e,ox e,ih]
theorem Oa(k j:κ)(y:V):∀kvs:List (κ×V),bh kvs k=b_->bh (kvs++[(k,y)]) j=if j=k then a_ y else bh kvs j
 | [],_=>by
  by_cases e:k=j
  ·rw[if_pos e.symm];exact ow (p:=(k,y)) e
  ·rw[if_neg λz=>e z.symm];exact ox (p:=(k,y)) e
 | p::r,hn=>by
  rw[List.cons_append];have hk:¬p.1=k:=λz=>by rw[ow z]at hn;cases hn
  rw[ox hk]at hn;have ih:=Oa k j y r hn
  by_cases e:p.1=j
  ·rw[ow e,ow e,if_neg λz=>hk (e.trans z)]
  ·rw[ox e,ox e,ih]
theorem ou(kvs:List (κ×V))(k j:κ)(y:V):bh (putK kvs k y) j=if j=k then a_ y else bh kvs j:=by
 unfold putK
 by_cases a:(kvs.any λkv=>decide (kv.1=k))=c_
 ·rw[if_pos a,OP];rw[xX]at a
  by_cases e:j=k
  ·obtain⟨x,hx⟩:=MF.mp a;rw[if_pos e,e,hx,FJ,if_pos rfl]
  ·rw[if_neg e];cases bh kvs j with
   | none=>rfl
   | some x=>rw[FJ,if_neg e]
 ·rw[if_neg a];refine Oa k j y kvs ?_;rw[xX]at a;cases q:bh kvs k with
  | none=>rfl
  | some x=>rw[q]at a;exact(a rfl).elim
theorem pU(kvs:List (κ×V))(k:κ)(v:V):(putK kvs k v).length<=kvs.length+1:=by
 unfold putK
 split
 ·rw[List.length_map];omega
 ·rw[List.length_append,List.length_cons,List.length_nil];omega
theorem i5.zW{o:Option V}{u:Option f_}(r:i5 o u):o.isSome=u.isSome:=by
 cases o with
 | none=>cases u with
  | none=>rfl
  | some _=>exact(show False from r).elim
 | some _=>cases u with
  | none=>exact(show False from r).elim
  | some _=>rfl
theorem i5.getD{o:Option V}{u:Option f_}(r:i5 o u)(rd:RelV d d'):RelV (o.getD d) (u.getD d'):=by
 cases o with
 | none=>cases u with
  | none=>exact rd
  | some _=>exact(show False from r).elim
 | some _=>cases u with
  | none=>exact(show False from r).elim
  | some _=>exact r
theorem KV.val{kvs:List (κ×V)}{vs:List (κ×f_)}(r:KV kvs vs)(k:κ):i5 (bh kvs k) (valueAt vs k):=by
 unfold KV at r
 induction r with
 | nil=>exact lR
 | @cons p q ps qs h t ih=>
  obtain⟨h1,h2⟩:=h
  by_cases e:p.1=k
  ·have e':q.1=k:=h1.symm.trans e;have b:valueAt (q::qs) k=a_ q.2:=by simp[valueAt,List.find?_cons,e']
   rw[ow e,b];exact h2
  ·have e':¬q.1=k:=λz=>e (h1.trans z);have b:valueAt (q::qs) k=valueAt qs k:=by simp[valueAt,List.find?_cons,e']
   rw[ox e,b];exact ih
theorem KV.any{kvs:List (κ×V)}{vs:List (κ×f_)}(r:KV kvs vs)(k:κ):(kvs.any λkv=>decide (kv.1=k))=vs.any λkv=>decide (kv.1=k):=by
 unfold KV at r
 induction r with
 | nil=>rfl
 | cons h t ih=>rw[List.any_cons,List.any_cons,ih,h.1]
theorem KV.Ka{kvs:List (κ×V)}{vs:List (κ×f_)}(r:KV kvs vs)(k:κ)(ry:RelV y u) :
  KV (kvs.map λkv=>if kv.1=k then (kv.1,y) else kv) (vs.map λkv=>if kv.1=k then (kv.1,u) else kv):=by
 unfold KV at r ⊢
 induction r with
 | nil=>exact .nil
 | @cons p q ps qs h t ih=>
  rw[List.map_cons,List.map_cons];refine .cons ?_ ih;obtain⟨h1,h2⟩:=h
  by_cases e:p.1=k
  ·rw[if_pos e,if_pos (h1.symm.trans e)];exact⟨h1,ry⟩
  ·rw[if_neg e,if_neg λz=>e (h1.trans z)];exact⟨h1,h2⟩
theorem KV.put{kvs:List (κ×V)}{vs:List (κ×f_)}(r:KV kvs vs)(k:κ)(ry:RelV y u):KV (putK kvs k y) (stored vs k u):=by
 unfold putK stored;rw[r.any k]
 by_cases e:(vs.any λkv=>decide (kv.1=k))=c_
 ·rw[if_pos e,if_pos e];exact r.Ka k ry
 ·rw[if_neg e,if_neg e];exact Paired.snoc r ⟨rfl,ry⟩
theorem KV.length{kvs:List (κ×V)}{vs:List (κ×f_)}(r:KV kvs vs):kvs.length=vs.length:=r_ r
end
theorem rS{P:l_}{w:k_}{k:Key}(r:RelV (kV k) u):(gc P w).is k u=true:=by
 cases k with
 | some i=>obtain⟨t,e⟩:=(show ∃t,u=eX i t from r);subst e;exact X7 P w i t
 | none=>cases (show u=oo from r);rfl
theorem OC{P:l_}{w:k_}:∀{ks:List Key} {us:List f_},Vals (ks.map kV) us->ItemsAre (gc P w) ks us
 | [],_,r=>by rw[List.map_nil]at r;cases r;exact .nil
 | k::ks,_,r=>by
  rw[List.map_cons]at r;cases r with
  | cons h t=>exact .cons (rS h) (OC t)
abbrev KT(H:Hp):List (List Key×V)->List (List Key×e_×f_)->Prop:=Paired λp q=>p.1=q.1/\H q.2.1=a_ (.tup (p.1.map kV))/\RelV p.2 q.2.2
theorem KT.val{kvs:List (List Key×V)}{xs:List (List Key×e_×f_)}(r:KT H kvs xs)(k:List Key):i5 (bh kvs k) ((atKey xs k).map (·.2)):=by
 induction r with
 | nil=>exact lR
 | @cons p q ps qs h t ih=>
  obtain⟨h1,_,h2⟩:=h
  by_cases e:p.1=k
  ·have e':q.1=k:=h1.symm.trans e;have b:atKey (q::qs) k=a_ q.2:=by simp[atKey,List.find?_cons,e']
   rw[ow e,b];exact h2
  ·have e':¬q.1=k:=λz=>e (h1.trans z);have b:atKey (q::qs) k=atKey qs k:=by simp[atKey,List.find?_cons,e']
   rw[ox e,b];exact ih
theorem KT.Ka{kvs:List (List Key×V)}{xs:List (List Key×e_×f_)}(r:KT H kvs xs)(k:List Key)(ry:RelV y u) :
  KT H (kvs.map λkv=>if kv.1=k then (kv.1,y) else kv) (xs.map (putAt k u)):=by
 induction r with
 | nil=>exact .nil
 | @cons p q ps qs h t ih=>
  rw[List.map_cons,List.map_cons];refine .cons ?_ ih;obtain⟨h1,h2,h3⟩:=h;unfold putAt
  by_cases e:p.1=k
  ·rw[if_pos e,if_pos (h1.symm.trans e)];exact⟨h1,h2,ry⟩
  ·rw[if_neg e,if_neg λz=>e (h1.trans z)];exact⟨h1,h2,h3⟩
theorem KT.put{kvs:List (List Key×V)}{xs:List (List Key×e_×f_)}(r:KT H kvs xs)(k:List Key)(hb:H b=a_ (.tup (k.map kV)))(ry:RelV y u) :
  KT H (putK kvs k y) (storedH xs k b u):=by
 have e:(kvs.any λkv=>decide (kv.1=k))=(atKey xs k).isSome:=by
  rw[xX,(r.val k).zW,Fy]
 unfold putK storedH;rw[e]
 by_cases q:(atKey xs k).isSome=c_
 ·rw[if_pos q,if_pos q];exact r.Ka k ry
 ·rw[if_neg q,if_neg q];exact Paired.snoc r ⟨rfl,hb,ry⟩
theorem KT.keeps{kvs:List (List Key×V)}{xs:List (List Key×e_×f_)}(r:KT H kvs xs)(ht:∀b ys,H b=a_ (.tup ys)->H' b=a_ (.tup ys)):KT H' kvs xs:=
 Paired.b9 r λ_ _ z=>⟨z.1,ht _ _ z.2.1,z.2.2⟩
section
variable{P:l_}{w:k_}{H:Hp}{h:j_}{a:e_}
theorem RG{u:HO}(ok:dU P w H h)(e:Rd H a u):de P w H h a u:=e.ok ok
theorem tZ{kvs:List (Key×V)}(ok:dU P w H h)(e:Rd H a (.dK kvs)):kvs.length<=a9/\(a == oj)=d_/\∃vs,KV kvs vs/\h.DictOf (gc P w) a vs:=
 show de P w H h a (.dK kvs) from RG ok e
theorem JL{kvs:List (Key×V)}(ok:dU P w H h)(e:H a=a_ (.dK kvs)):kvs.length<=a9/\(a == oj)=d_/\∃vs,KV kvs vs/\h.DictOf (gc P w) a vs:=tZ ok (.inl e)
theorem vP{ks:List Key}(ok:dU P w H h)(e:H a=a_ (.tup (ks.map kV))):(xV (gc P w)).is h ks a:=by
 obtain⟨_,its,r,o,h1,h2,n,h3⟩:=(show de P w H h a (.tup (ks.map kV)) from ok a _ e);exact⟨o,its.toArray,n,h1,h2,h3,by simpa using OC r⟩
theorem tY{kvs:List (List Key×V)}(ok:dU P w H h)(e:Rd H a (.dT kvs)):kvs.length<=a9/\(a == oj)=d_/\
  ∃xs,KT H kvs xs/\h.DictOfH (xV (gc P w)) a xs:=by
 obtain⟨z,y,xs,r,o,es,ep,h1,h2,h3,h4,h5⟩:=(show de P w H h a (.dT kvs) from RG ok e);refine⟨z,y,xs,r,o,es,ep,h1,h2,h3,h4,λx hx=>?_,h5⟩
 have all:∀{l:List (List Key×V)} {m:List (List Key×e_×f_)},KT H l m->∀x∈m,(xV (gc P w)).is h x.1 x.2.1:=by
  intro l m q
  induction q with
  | nil=>intro x hx;exact nomatch hx
  | @cons p q ps qs hq t ih=>
   intro x hx;rcases List.mem_cons.mp hx with e | hx
   ·subst e;exact vP ok (by rw[<-hq.1];exact hq.2.1)
   ·exact ih x hx
 exact all r x hx
theorem afD{kvs:List (List Key×V)}(ok:dU P w H h)(e:H a=a_ (.dT kvs)):kvs.length<=a9/\(a == oj)=d_/\
  ∃xs,KT H kvs xs/\h.DictOfH (xV (gc P w)) a xs:=tY ok (.inl e)
end
def dR(H:Hp)(a:e_)(y:V)(r:Option V):Prop:=
 (∃kvs k,Rd H a (.dK kvs)/\y=kV k/\r=bh kvs k)\/∃kvs k b,Rd H a (.dT kvs)/\y=.ref b/\H b=a_ (.tup (k.map kV))/\r=bh kvs k
def uA(H:Hp)(a:e_)(y v:V)(H':Hp):Prop:=
 (∃kvs k,H a=a_ (.dK kvs)/\y=kV k/\kvs.length<a9/\H'=upd H a (.dK (putK kvs k v)))\/
 ∃kvs k b,H a=a_ (.dT kvs)/\y=.ref b/\H b=a_ (.tup (k.map kV))/\kvs.length<a9/\H'=upd H a (.dT (putK kvs k v))
theorem dR.k{kvs:List (Key×V)}{k:Key}(e:H a=a_ (.dK kvs)):dR H a (kV k) (bh kvs k):=.inl ⟨kvs,k,.inl e,rfl,rfl⟩
theorem dR.t{kvs:List (List Key×V)}{k:List Key}(e:H a=a_ (.dT kvs))(eb:H b=a_ (.tup (k.map kV))):dR H a (.ref b) (bh kvs k):=.inr ⟨kvs,k,b,.inl e,rfl,eb,rfl⟩
theorem uA.k{kvs:List (Key×V)}{k:Key}(e:H a=a_ (.dK kvs))(hl:kvs.length<a9):uA H a (kV k) v (upd H a (.dK (putK kvs k v))):=.inl ⟨kvs,k,e,rfl,hl,rfl⟩
section
variable{X:Cx}{p_:List (e_×Obj)}{σ:St}{H:Hp}{s:g_}{a:e_}{y v:V}{u r:f_}{o:Option V}{A:h_}{E:f_->g_->Prop}
theorem Inv.big(I:Inv X p_ σ H s):oj<s.heap.objs.size:=by
 have h:dW<s.heap.objs.size:=(I.mod.glob.keeps I.bk).lt;exact tw qc h
theorem ZJ(hu:A.units+1<cLine)(I:Inv X p_ σ H s)(g:dR H a y (a_ v))(ry:RelV y u)(h:∀w' s',Inv X p_ σ H s'->RelV v w'->Q w' s') :
  wpAny (model X.prog X.w) A (getItem (.ref a) u) Q E s:=by
 rcases g with ⟨kvs,k,e,ey,l⟩ | ⟨kvs,k,b,e,ey,eb,l⟩
 ·subst ey;obtain⟨z,hd,vs,rel,dd⟩:=tZ I.aD e;obtain⟨w',hw,gU⟩:=i5.some_of (v:=v) (o:=valueAt vs k) (by rw[l];exact rel.val k);exact wpAny_getItem_of (rS ry) dd.mapOf hw (h w' _ (I.tok _) gU)
 ·subst ey;cases (show u=cR b from ry);obtain⟨z,hd,xs,rel,dd⟩:=tY I.aD e;obtain⟨w',hw,gU⟩:=i5.some_of (v:=v) (o:=(atKey xs k).map (·.2)) (by rw[l];exact rel.val k);obtain⟨p,hp,LK⟩:=lN.mp hw;refine wpAny_getItem_heap (zD hu) (vP I.aD eb) dd hp ?_;rw[LK];exact h w' _ (I.tok _) gU
theorem ag'(hu:A.units+1<cLine)(I:Inv X p_ σ H s)(g:dR H a y o)(ry:RelV y u)(h:∀s',Inv X p_ σ H s'->Q (.bool o.isSome) s') :
  wpAny (model X.prog X.w) A (fw .In u (.ref a)) Q E s:=by
 rcases g with ⟨kvs,k,e,ey,l⟩ | ⟨kvs,k,b,e,ey,eb,l⟩
 ·subst ey;obtain⟨z,hd,vs,rel,dd⟩:=tZ I.aD e;refine wpAny_in_of (rS ry) hd dd.mapOf ?_;rw[<-(rel.val k).zW,<-l];exact h _ (I.tok _)
 ·subst ey;cases (show u=cR b from ry);obtain⟨z,hd,xs,rel,dd⟩:=tY I.aD e;refine wpAny_in_heap (zD hu) (vP I.aD eb) hd dd ?_;have q:=(rel.val k).zW;rw[Fy]at q;rw[<-q,<-l];exact h _ (I.tok _)
theorem acF(hu:A.units+1<cLine)(I:Inv X p_ σ H s)(g:dR H a y o)(ry:RelV y u)(h:∀s',Inv X p_ σ H s'->Q (.bool (!o.isSome)) s') :
  wpAny (model X.prog X.w) A (fw .NotIn u (.ref a)) Q E s:=by
 rcases g with ⟨kvs,k,e,ey,l⟩ | ⟨kvs,k,b,e,ey,eb,l⟩
 ·subst ey;obtain⟨z,hd,vs,rel,dd⟩:=tZ I.aD e;refine wpAny_notIn_of (rS ry) hd dd.mapOf ?_;rw[<-(rel.val k).zW,<-l];exact h _ (I.tok _)
 ·subst ey;cases (show u=cR b from ry);obtain⟨z,hd,xs,rel,dd⟩:=tY I.aD e;refine wpAny_notIn_heap (zD hu) (vP I.aD eb) hd dd ?_;have q:=(rel.val k).zW;rw[Fy]at q;rw[<-q,<-l];exact h _ (I.tok _)
theorem Ip{t':Nat}{ob:HO}(I:Inv X p_ σ H s)(mu:A1 (H a))(hs:kG a s.heap h')(he:∃q,h'.get? a=a_ q)(new:de X.prog X.w (upd H a ob) h' a ob) :
  Inv X p_ σ (upd H a ob) { s with heap:=h',toks:=t' }:=
 I.write (x:=a) (e:=a) mu (.inl rfl) (λb q hb z=>(hs.2 b hb).trans z) he new
theorem Je{P:l_}{w:k_}{kvs:List (Key×V)}{vs:List (Key×f_)}(z:kvs.length<=a9)(hd:(a == oj)=d_)(rel:KV kvs vs)(dd:h'.DictOf (gc P w) a vs) :
  de P w H' h' a (.dK kvs):=⟨z,hd,vs,rel,dd⟩
theorem ZI{Q:Unit->g_->Prop}(hu:A.units+1<cLine)(I:Inv X p_ σ H s)(g:uA H a y v H')(ry:RelV y u)(rv:RelV v r)(h:∀s',Inv X p_ σ H' s'->Q () s') :
  wpAny (model X.prog X.w) A (setItem (.ref a) u r) Q E s:=by
 rcases g with ⟨kvs,k,e,ey,l,eH⟩ | ⟨kvs,k,b,e,ey,eb,l,eH⟩
 ·subst ey eH;obtain⟨z,hd,vs,rel,dd⟩:=JL I.aD e;have hz:vs.length<=a9:=by rw[<-rel.length];exact z
  have hl:(putK kvs k v).length<=a9:=by have:=pU kvs k v;omega
  refine wpAny_setItem_pairs (hsz:=hz) (rS ry) dd λh' xv hs=>h _ ?_;have he:∃q,h'.get? a=a_ q:=let ⟨q,_,_,hq,_⟩:=xv;⟨q,hq⟩
  exact Ip I (by rw[e];exact lR) hs he (Je hl hd (rel.put k rv) xv)
 ·subst ey eH;cases (show u=cR b from ry);obtain⟨z,hd,xs,rel,dd⟩:=afD I.aD e;have hz:xs.length<=a9:=by rw[<-r_ rel];exact z
  have hl:(putK kvs k v).length<=a9:=by have:=pU kvs k v;omega
  refine wpAny_setItem_heap (hsz:=hz) (zD hu) (vP I.aD eb) dd λh' xv hs=>h _ ?_;obtain⟨q,es,ep,hq,h2,h3,h4,_,h5⟩:=xv;refine Ip I (by rw[e];exact lR) hs ⟨q,hq⟩ ⟨hl,hd,_,(rel.put k eb rv).keeps λc ys ec=>?_,q,es,ep,hq,h2,h3,h4,h5⟩;rw[ag (ie ec e (λz=>nomatch z))];exact ec
end
def S4(i:Expr):Prop:=∀ov iv,subscripted i d_ ov iv=operate [ov,iv] (getItem ov iv)
theorem abw{w:k_}{env:Env}{T id:String}
  (hl:B9 (.type T) "__getitem__" = pure (a_ (.builtin id))) (hs:S4 slice)
  (h:wpAny (model prog w) A (eval value env) (λo s₁=>wpAny (model prog w) A (eval slice env) (λi s₂=>s₂.TypeIs o T/\wpAny (model prog w) A (getItem o i) Q E s₂) E s₁) E s) :
  wpAny (model prog w) A (eval (.Subscript value slice pos) env) Q E s:=by
 refine Subscript_ (gG h (λo s₁ h₁=>gG h₁ (λi s₂ h₂=>?_) λ_ _ x=>x) λ_ _ x=>x);obtain⟨hT,h₂⟩:=h₂;unfold Nm;refine aj ?_;rw[getitemInPython_of_ne hT.not_modules];refine aj (Na hT hl ?_)
 have fin:wpAny (model prog w) A (subscripted slice d_ o i) (λr s₃=>wpAny (model prog w) A (letTemporaryGo value o r >>= λ_=>pure r) Q E s₃) E s₂:=by
  rw[hs o i];exact wpAny_operating (gG h₂ (λr s₃ h₃=>aj (wpAny_letTemporaryGo (aM h₃))) λ_ _ x=>x)
 first
  | exact aM (aj fin)
  | exact aj (aM (aj fin))
  | exact aj fin
theorem X9{X:Cx}{o:Option V}(I:Inv X p_ σ H s)(g:dR H a y o):s.TypeIs (.ref a) "dict":=by
 rcases g with ⟨kvs,k,e,_,_⟩ | ⟨kvs,k,b,e,_,_,_⟩
 ·obtain⟨_,_,vs,_,dd⟩:=tZ I.aD e;exact dd.typeIs
 ·obtain⟨_,_,xs,_,dd⟩:=tY I.aD e;exact dd.typeIs
def aeO(td ty:TE):TE:=λσ H Q=>td σ H λx H1=>ty σ H1 λy H2=>∃a v,x=.ref a/\dR H2 a y (a_ v)/\Q v H2
def agL(ty td:TE):TE:=λσ H Q=>ty σ H λy H1=>td σ H1 λx H2=>∃a o,x=.ref a/\dR H2 a y o/\Q (.bl o.isSome) H2
def abv(ty td:TE):TE:=λσ H Q=>ty σ H λy H1=>td σ H1 λx H2=>∃a o,x=.ref a/\dR H2 a y o/\Q (.bl (!o.isSome)) H2
def aeV(td ty tv:TE):TS:=λD σ H=>tv σ H λv H1=>td σ H1 λx H2=>ty σ H2 λy H3=>∃a H4,x=.ref a/\uA H3 a y v H4/\D.nx σ H4
section
variable{X:Cx}{o i e value:Expr}{pos pos' AO:Pos}{td ty tv:TE}
theorem vE(hu:X.A.units+1<cLine)(ho:PE X o td)(hi:PE X i ty)(hs:S4 i):PE X (.Subscript o i pos) (aeO td ty):=by
 intro p_ s σ H Q I h;refine abw PySem.F.slot_dict_getitem.lookup hs (aI (ho p_ s σ H _ I h) λu s1 ⟨x,H1,I1,rx,q1⟩=>aI (hi p_ s1 σ H1 _ I1 q1) λiv s2 ⟨y,H2,I2,ry,a,v,ex,g,q2⟩=>?_);subst ex;obtain rfl:u=cR a:=rx;exact⟨X9 I2 g,ZJ hu I2 g ry λw' s3 I3 gU=>⟨v,H2,I3,gU,q2⟩⟩
theorem adk(hu:X.A.units+1<cLine)(hi:PE X i ty)(ho:PE X o td):PC X .In i o (agL ty td):=by
 intro p_ s σ H Q I h;refine aI (hi p_ s σ H _ I h) λiv s1 ⟨y,H1,I1,ry,q1⟩=>aI (ho p_ s1 σ H1 _ I1 q1) λu s2 ⟨x,H2,I2,rx,a,ov,ex,g,q2⟩=>?_;subst ex;obtain rfl:u=cR a:=rx;exact ag' hu I2 g ry λs3 I3=>⟨.bl ov.isSome,H2,I3,rfl,q2⟩
theorem Gu(hu:X.A.units+1<cLine)(hi:PE X i ty)(ho:PE X o td):PC X .NotIn i o (abv ty td):=by
 intro p_ s σ H Q I h;refine aI (hi p_ s σ H _ I h) λiv s1 ⟨y,H1,I1,ry,q1⟩=>aI (ho p_ s1 σ H1 _ I1 q1) λu s2 ⟨x,H2,I2,rx,a,ov,ex,g,q2⟩=>?_;subst ex;obtain rfl:u=cR a:=rx;exact acF hu I2 g ry λs3 I3=>⟨.bl (!ov.isSome),H2,I3,rfl,q2⟩
theorem Ai(hu:X.A.units+1<cLine)(ho:PE X o td)(hi:PE X i ty)(hv:PE X value tv)(hs:Cj value (a_ (.Subscript o i pos')) pos.line X.env=pure d_) :
  PS X (.Assign [.Subscript o i pos'] value pos) (aeV td ty tv):=by
 intro p_ s σ H D I h;refine wpAny_Assign_Subscript (aI (hv p_ s σ H _ I h) λr s1 ⟨v,H1,I1,rv,q1⟩=>aI (ho p_ s1 σ H1 _ I1 q1) λu s2 ⟨x,H2,I2,rx,q2⟩=>aI (hi p_ s2 σ H2 _ I2 q2) λiv s3 ⟨y,H3,I3,ry,a,H4,ex,g,q3⟩=>?_) hs;subst ex;obtain rfl:u=cR a:=rx;exact ZI hu I3 g ry rv λs4 I4=>⟨σ,H4,I4,q3⟩
end
theorem aa4{P:l_}{w:k_}(h:j_)(hb:oj<h.objs.size):de P w H (h.push { cls:=.type "dict",data:=.dict #[] }) h.objs.size (.dK []):=
 ⟨aP _,beq_eq_false_iff_ne.mpr (cB (cI hb)),[],.nil,XH h⟩
theorem aa2{P:l_}{w:k_}(h:j_)(hb:oj<h.objs.size):de P w H (h.push { cls:=.type "dict",data:=.dict #[] }) h.objs.size (.dT []):=
 ⟨aP _,beq_eq_false_iff_ne.mpr (cB (cI hb)),[],.nil,_,#[],0,dw _ rfl,⟨rfl,rfl,rfl⟩,rfl,rfl,List.nodup_nil⟩
def acW:TE:=λ_ H Q=>∀p,H p=b_->Q (.ref p) (upd H p (.dK []))
def acV:TE:=λ_ H Q=>∀p,H p=b_->Q (.ref p) (upd H p (.dT []))
section
variable{X:Cx}{pos:Pos}
theorem z8:PE X (.Dict [] [] pos) acW:=λp_ s σ H Q I h=>
 wpAny_Dict_empty ⟨.ref s.heap.objs.size,_,I.laid (a:=s.heap.objs.size) (o:=.dK []) (t':=s.toks) (λ_ _ q=>aY _ q) (aw _) (aa4 s.heap I.big),rfl,h _ (I.aD.fresh (aw _))⟩
theorem aai:PE X (.Dict [] [] pos) acV:=λp_ s σ H Q I h=>
 wpAny_Dict_empty ⟨.ref s.heap.objs.size,_,I.laid (a:=s.heap.objs.size) (o:=.dT []) (t':=s.toks) (λ_ _ q=>aY _ q) (aw _) (aa2 s.heap I.big),rfl,h _ (I.aD.fresh (aw _))⟩
end
structure M1(X:Cx)(o:Expr)(m:Str)(apos:Pos)(e:Expr)(fU:Pos):Prop where
 base:zL o m X.env (eval o X.env)=eval o X.env
 jr:((backTo fU (cA [e] X.env)).all (λx=>!x.1)&&(yb fU (xM [] X.env)).all (λx=>x.1.isSome)
  && decide (([e]:List Expr).length+([]:List Keyword).length+(if ([]:List Keyword).isEmpty then 0 else 1)<30))=c_
 line:(apos.endLine == fU.line)=c_
 trees:backTo fU (cA [e] X.env)=[(d_,eval e X.env)]
structure M2(X:Cx)(o:Expr)(m:Str)(apos:Pos)(e f:Expr)(fU:Pos):Prop where
 base:zL o m X.env (eval o X.env)=eval o X.env
 jr:((backTo fU (cA [e,f] X.env)).all (λx=>!x.1)&&(yb fU (xM [] X.env)).all (λx=>x.1.isSome)
  && decide (([e,f]:List Expr).length+([]:List Keyword).length+(if ([]:List Keyword).isEmpty then 0 else 1)<30))=c_
 line:(apos.endLine == fU.line)=c_
 trees:backTo fU (cA [e,f] X.env)=[(d_,eval e X.env),(d_,eval f X.env)]
def Es(H:Hp)(a:e_):Prop:=(∃kvs,Rd H a (.dK kvs))\/∃kvs,Rd H a (.dT kvs)
theorem Jd{X:Cx}(I:Inv X p_ σ H s)(d:Es H a) :
  s.TypeIs (.ref a) "dict"/\(∀b,cR a=.ref b->∃ob,s.heap.get? b=a_ ob/\ob.dict=b_)/\(a == oj)=false:=by
 rcases d with ⟨kvs,e⟩ | ⟨kvs,e⟩
 ·obtain⟨_,hd,vs,_,dd⟩:=tZ I.aD e;refine⟨dd.typeIs,λb q=>?_,hd⟩;cases q;obtain⟨ob,_,_,h1,h2,_⟩:=dd;exact⟨ob,h1,h2.2.1⟩
 ·obtain⟨_,hd,xs,_,dd⟩:=tY I.aD e;refine⟨dd.typeIs,λb q=>?_,hd⟩;cases q;obtain⟨ob,_,_,h1,h2,_⟩:=dd;exact⟨ob,h1,h2.2.1⟩
section
variable{X:Cx}{p_:List (e_×Obj)}{σ:St}{H:Hp}{s:g_}{a:e_}{y d:V}{u r:f_}{o:Option V}{A:h_}{E:f_->g_->Prop}
theorem ad9(hu:A.units+1<cLine)(I:Inv X p_ σ H s)(g:dR H a y o)(ry:RelV y u)(h:∀w' s',Inv X p_ σ H s'->RelV (o.getD .aH) w'->Q w' s') :
  wpAny (model X.prog X.w) A (call (.builtin "dict.get") [.ref a,u]) Q E s:=by
 rcases g with ⟨kvs,k,e,ey,l⟩ | ⟨kvs,k,b,e,ey,eb,l⟩
 ·subst ey;obtain⟨z,hd,vs,rel,dd⟩:=tZ I.aD e;refine B4 PySem.F.slot_dict_get dd.typeIs PySem.F.entry_dict_get (PySem.F.args_dict_get_2 _ _) (meets_dict_get (gc X.prog X.w) a (rS ry) hd) ⟨_,dd.mapOf,h _ _ (I.tok _) ?_⟩;rw[l];exact(rel.val k).getD rfl
 ·subst ey;cases (show u=cR b from ry);obtain⟨z,hd,xs,rel,dd⟩:=tY I.aD e;refine B4 PySem.F.slot_dict_get dd.typeIs PySem.F.entry_dict_get (PySem.F.args_dict_get_2 _ _) (meetsH_dict_get (xV (gc X.prog X.w)) a b hd) ⟨zD hu,k,xs,vP I.aD eb,dd,h _ _ (I.tok _) ?_⟩;rw[l];exact(rel.val k).getD rfl
theorem ad8(hu:A.units+1<cLine)(I:Inv X p_ σ H s)(g:dR H a y o)(ry:RelV y u)(rd:RelV d r)(h:∀w' s',Inv X p_ σ H s'->RelV (o.getD d) w'->Q w' s') :
  wpAny (model X.prog X.w) A (call (.builtin "dict.get") [.ref a,u,r]) Q E s:=by
 rcases g with ⟨kvs,k,e,ey,l⟩ | ⟨kvs,k,b,e,ey,eb,l⟩
 ·subst ey;obtain⟨z,hd,vs,rel,dd⟩:=tZ I.aD e;refine B4 PySem.F.slot_dict_get dd.typeIs PySem.F.entry_dict_get (PySem.F.args_dict_get_3 _ _ _) (meets_dict_get_default (gc X.prog X.w) a (rS ry) hd r) ⟨_,dd.mapOf,h _ _ (I.tok _) ?_⟩;rw[l];exact(rel.val k).getD rd
 ·subst ey;cases (show u=cR b from ry);obtain⟨z,hd,xs,rel,dd⟩:=tY I.aD e;refine B4 PySem.F.slot_dict_get dd.typeIs PySem.F.entry_dict_get (PySem.F.args_dict_get_3 _ _ _) (meetsH_dict_get_default (xV (gc X.prog X.w)) a b hd r) ⟨zD hu,k,xs,vP I.aD eb,dd,h _ _ (I.tok _) ?_⟩;rw[l];exact(rel.val k).getD rd
end
def acY(td ty:TE):TE:=λσ H Q=>td σ H λx H1=>∃a,x=.ref a/\Es H1 a/\ty σ H1 λy H2=>∃o,dR H2 a y o/\Q (o.getD .aH) H2
def acX(td ty tx:TE):TE:=λσ H Q=>td σ H λx H1=>∃a,x=.ref a/\Es H1 a/\ty σ H1 λy H2=>tx σ H2 λz H3=>∃o,dR H3 a y o/\Q (o.getD z) H3
section
variable{X:Cx}{o e f:Expr}{apos fU:Pos}{td ty tx:TE}
theorem aaj(hu:X.A.units+1<cLine)(ho:PE X o td)(he:PE X e ty)(m:M1 X o "get" apos e fU):PE X (.Call (.Attribute o "get" apos) [e] [] fU) (acY td ty):=by
 intro p_ s σ H Q I h;refine MU m.base m.jr m.line PySem.F.plainAttrs_dict PySem.F.slot_dict_get PySem.F.type_dict_get (aI (ho p_ s σ H _ I h) λu s1 ⟨x,H1,I1,rx,a,ex,d,q1⟩=>?_);subst ex;obtain rfl:u=cR a:=rx;obtain⟨t1,t2,_⟩:=Jd I1 d;refine⟨t1,t2,?_⟩;rw[m.trees];refine Ft rfl (Fu (vj (aI (he p_ s1 σ H1 _ I1 q1) λiv s2 ⟨y,H2,I2,ry,ov,g,q2⟩=>zG ?_)));exact ad9 hu I2 g ry λw' s3 I3 gU=>⟨_,H2,I3,gU,q2⟩
theorem Ht(hu:X.A.units+1<cLine)(ho:PE X o td)(he:PE X e ty)(hf:PE X f tx)(m:M2 X o "get" apos e f fU):PE X (.Call (.Attribute o "get" apos) [e,f] [] fU) (acX td ty tx):=by
 intro p_ s σ H Q I h;refine MU m.base m.jr m.line PySem.F.plainAttrs_dict PySem.F.slot_dict_get PySem.F.type_dict_get (aI (ho p_ s σ H _ I h) λu s1 ⟨x,H1,I1,rx,a,ex,d,q1⟩=>?_);subst ex;obtain rfl:u=cR a:=rx;obtain⟨t1,t2,_⟩:=Jd I1 d;refine⟨t1,t2,?_⟩;rw[m.trees]
 refine Ft rfl (Fu (vj (aI (he p_ s1 σ H1 _ I1 q1) λiv s2 ⟨y,H2,I2,ry,q2⟩=>
  vj (aI (hf p_ s2 σ H2 _ I2 q2) λfv s3 ⟨z,H3,I3,rz,ov,g,q3⟩=>zG ?_))))
 exact ad8 hu I3 g ry rz λw' s4 I4 gU=>⟨_,H3,I4,gU,q3⟩
end
end L2
namespace L2
open PySem.W
section
variable{X:Cx}
def adg:List V->Hp->VK->Prop:=λxs H Q=>∃(a:e_) (kvs:List (Key×V)),xs=[.ref a]/\H a=a_ (.dK kvs)/\∀l,H l=b_->Q (.ref l) (upd H l (.lst (kvs.map λkv=>kV kv.1)))
theorem afs{P:l_}{w:k_}{k:Key}(h:(gc P w).is k u=c_):RelV (kV k) u:=by
 rw[YE]at h;cases k with
 | none=>cases u <;> first | rfl | cases h
 | some i=>exact Xu h
theorem N9{P:l_}{w:k_}:∀{kvs:List (Key×V)} {vs:List (Key×f_)} {us:List f_},KV kvs vs->us.length=vs.length->(∀(j:Nat) u,us[j]?=a_ u->∃k x,vs[j]?=a_ (k,x)/\(gc P w).is k u=c_)->Vals (kvs.map λkv=>kV kv.1) us
 | _,_,[],.nil,_,_=>.nil
 | _,_,_::_,.nil,h,_=>by simp at h
 | _,_,[],.cons _ _,h,_=>by simp at h
 | _,_,u::us,.cons (a:=p) (b:=q) r rs,h,g=>by
  obtain⟨k,x,e,hk⟩:=g 0 u rfl;simp only[List.getElem?_cons_zero,xD]at e;subst e;refine .cons ?_ (N9 rs (by simpa using h) λj u e=>by simpa using g (j+1) u (by simpa using e));show RelV (kV p.1) u;rw[r.1];exact afs hk
theorem YK(hc:X.calm=c_):jC X (.type "list") adg:=by
 intro p_ s σ H xs us Q I r h;obtain⟨a,kvs,rfl,e,q⟩:=h;obtain⟨u,rfl,rx⟩:=vals1 r;cases rx;obtain⟨z,hd,vs,rel,dd⟩:=JL I.aD e;obtain⟨ep,hat⟩:=dd.dictAt;refine kdl_call (kdl_dict (knd:=gc X.prog X.w) (kvs:=vs) (ep:=ep) hd) (I.ok.hd hc) hat (by rw[<-rel.length];exact z) λh' tk wy c' kp e' AU=>?_;have hv:Vals (kvs.map λkv=>kV kv.1) wy.toList:=N9 rel (by rw[dj];exact AU.1) λj v g=>AU.2 j v (by rw[<-pN];exact g);exact⟨.ref s.heap.objs.size,_,I.laid (t':=tk) kp (aw _) (show de X.prog X.w _ h' _ (.lst _) from ⟨by rw[List.length_map];exact z,wy.toList,c',hv,by simpa using e'⟩),rfl,q _ (I.aD.fresh (aw _))⟩
end
end L2
namespace PySem
theorem X3:B9 (.type "list") "keys" = pure none:=by rw[Nd,MJ];kernel_rfl
theorem acm{w:k_}{xs:Array f_}{k:Nat}{Q:Option f_->g_->Prop}
  (hx:s.heap.get? a=a_ o) (hc:o.cls=.type "list") (TF:o.data=.seq xs k) (hd:o.dict=b_) (hA:A.handled=b_)
  (h:∀h' tk,(∀b o,s.heap.get? b=a_ o->h'.get? b=a_ o)->Q b_ { s with heap:=h',toks:=tk }):wpAny (model prog w) A (getAttr? (.ref a) "keys") Q E s:=by
 obtain⟨c,Fi,dat,sl⟩:=o;simp only at hc TF hd;subst hc TF hd;obtain⟨hp,g,d,tk,os⟩:=s;have hT:∀qG,(⟨hp,g,d,qG,os⟩:g_).TypeIs (.ref a) "list":=λ_=>⟨_,hx,rfl⟩;have f1:=sub_AttributeError;have f3:=F.slot_list_getattribute.lookup;have f4:=F.slot_list_getattribute.bind (.ref a);have f5:=am_list_getattr_none;unfold getAttr? getAttrBy? getAttrBy
 repeat (any_goals (first | assumption | exact hT _ | ((with_reducible show wpAny _ _ (call (Value.builtin "list.__getattribute__") _ _) _ _ _);refine xR F.slot_list_getattribute (hT _) am_entry_list_getattribute (F.args_list_getattribute_2 _ _) (meets_getattribute_miss_list a xs k sl "keys" _ X3 qc (by size_fits)) ⟨hx,hA,λh' qG e mU=>?_⟩) | wp_step))
 obtain⟨t',u',he⟩:=mU.there;show wpAny _ _ (getattributeRaised _ _ _ _ _ _ _) _ _ _;unfold getattributeRaised
 repeat (any_goals (first | assumption | wp_step))
 exact h _ _ mU.keeps
theorem BX:plainId "dict.update.loop" = true:=dk
theorem Ng:entryFor table "dict.update.loop" = a_ Builtin.«dict.update.loop»:=entryFor_of_fast (by kernel_rfl)
section
variable{prog:l_}{w:k_}{K:Type}[DecidableEq K]{knd:KeyKind prog w K}{A:h_}{d it l:e_}{its:List f_}{R:Result->g_->Prop}{res:f_}
def t8(knd:KeyKind prog w K)(h:j_)(d it:e_):List (K×f_)->List f_->Prop
 | [],[]=>True
 | (k,v)::ps,u::us=>(∃b o key n,u=.ref b/\b≠d/\b≠it/\h.get? b=a_ o/\o.cls=.type "tuple"/\o.data=.seq #[key,v] n/\knd.is k key=c_)/\t8 knd h d it ps us
 | _,_=>False
theorem t8.keeps(kp:∀b o,b≠d->b≠it->h.get? b=a_ o->h'.get? b=a_ o):∀{ps:List (K×f_)} {us:List f_},t8 knd h d it ps us->t8 knd h' d it ps us
 | [],[],_=>trivial
 | (_,_)::_,_::_,⟨⟨b,o,key,n,e,h1,h2,h3,r⟩,q⟩=>⟨⟨b,o,key,n,e,h1,h2,kp b o h1 h2 h3,r⟩,t8.keeps kp q⟩
theorem ZV(hh:A.handled=b_)(L7:d≠it)(hld:l≠d)(xj:l≠it) :
  ∀(us:List f_) (ps:List (K×f_)) (i:Nat) (s:g_) (kvs:List (K×f_)) (t:Tok),its.drop i=us->t8 knd s.heap d it ps us->s.heap.IsListIter it l i->s.heap.IsList l its.toArray->s.heap.DictOf knd d kvs->kvs.length+ps.length<=a9->
  (∀h' tk,(∀b o,b≠d->b≠it->s.heap.get? b=a_ o->h'.get? b=a_ o)->h'.DictOf knd d (merged kvs ps)->R (.ok (.ret res)) { s with heap:=h',toks:=tk })->
  codeAny (model prog w) A (.builtin "dict.update.loop" ⟨[.ref d,.ref it,.int i t,res],[]⟩) R s:=by
 intro us
 induction us with
 | nil=>
  intro ps i s kvs t ed hp hi hl hd hz hR;cases ps with
  | cons p ps=>exact hp.elim
  | nil=>
  refine qY Ng ?_;rw[tf BX _];show wpAny _ A.in1 (pyNext (.ref it) >>= _) _ _ s;refine aj (Xd hh hi hl (by rw[List.getElem?_toArray];exact List.getElem?_eq_none (by have:=congrArg List.length ed;simp at this;omega)) λh' eb=>?_);show wpAny _ _ (Builtin.Dict.addKeywords d [] >>= _) _ _ _;exact aj (aM (aM (hR h' s.toks (λb o _ h2 e=>eb b o h2 e) (let ⟨o,es,ep,ho,r⟩:=hd;⟨o,es,ep,eb d o L7 ho,r⟩))))
 | cons u us ih=>
  intro ps i s kvs t ed hp hi hl hd hz hR;cases ps with
  | nil=>exact hp.elim
  | cons p ps=>
  obtain⟨k,v⟩:=p;obtain⟨⟨b,o,key,n,rfl,b1,b2,b3,b4,b5,b6⟩,hp⟩:=hp;have gi:its[i]?=a_ (.ref b):=by have:=congrArg (·[0]?) ed;simpa using this
  refine qY Ng ?_;rw[tf BX _];show wpAny _ A.in1 (pyNext (.ref it) >>= _) _ _ s;refine aj (W8 hi hl (by rw[List.getElem?_toArray];exact gi) λh' E7 sb=>?_);have g:=(sb.2 b b2).trans b3;refine aj (jw ?_);refine aj (BY ?_);unfold Builtin.Dict.pairItems;have hT:(⟨h',s.gens,s.drawn,s.toks,s.os⟩:g_).TypeIs (.ref b) "tuple":=⟨_,g,b4⟩;refine aj (B3 hT ?_);refine Nc (λ_=>?_) λz=>absurd rfl z;refine aj (pP g b5 (aM ?_));refine jw ?_;have sM:kvs.length+(ps.length+1)<=a9:=hz;refine wpAny_dictSet_pairs b6 (hd.sameBut sb L7) (λh2 hd2 UG=>?_) om;have kp:∀b o,b≠d->b≠it->s.heap.get? b=a_ o->h2.get? b=a_ o:=λb o e1 e2 e=>((UG.2 b e1).trans (sb.2 b e2)).trans e;refine aM ⟨qZ BX _,ih ps (i+1) _ _ _ (by rw[<-List.drop_drop,ed];rfl) (hp.keeps kp) ?_ ?_ hd2 (by have:=stored_length_le kvs k v;omega) λh3 tk kp3 Bt=>?_⟩
  ·obtain⟨oi,e1,e2⟩:=E7;exact⟨oi,(UG.2 it (cB L7)).trans e1,e2⟩
  ·obtain⟨ol,e1,e2⟩:=hl;exact⟨ol,kp l ol hld xj e1,e2⟩
  ·exact hR h3 tk (λb o e1 e2 e=>kp3 b o e1 e2 (kp b o e1 e2 e)) Bt
end
section
variable{prog:l_}{w:k_}{K:Type}[DecidableEq K]{knd:KeyKind prog w K}{A:h_}{E:f_->g_->Prop}{s:g_}
theorem XE{n:Nat}{ps:List (K×f_)}(hh:A.handled=b_)(hl:s.heap.get? l=a_ { cls:=.type "list",dict:=b_,data:=.seq its.toArray n,slots:=#[] })
  (hp:∀d it,s.heap.objs.size<=d->s.heap.objs.size<=it->t8 knd s.heap d it ps its) (hz:ps.length<=a9)
  (h:∀h' tk,(∀b o,s.heap.get? b=a_ o->h'.get? b=a_ o)->h'.DictOf knd s.heap.objs.size (merged [] ps)->Q (.ref s.heap.objs.size) { s with heap:=h',toks:=tk }) :
  wpAny (model prog w) A (call (.type "dict") [.ref l]) Q E s:=by
 refine callType_codes (Q₁:=λobj s₁=>obj=.ref s.heap.objs.size/\s₁={ s with heap:=s.heap.push { cls:=.type "dict",data:=.dict #[] } }) F.kt_called_dict (F.kt_typeCall_dict_1 _) F.entry_dict_init (kt_code_dict_new _ ⟨rfl,rfl⟩) ?_;rintro obj s₁ ⟨rfl,rfl⟩;have AQ:(s.heap.push { cls:=.type "dict",data:=.dict #[] }).DictOf knd s.heap.objs.size []:=XH s.heap;have eB:=aY { cls:=.type "dict",data:=.dict #[] } hl;refine⟨AQ.typeIs,F.args_dict_init_2 _ _,?_⟩;unfold Builtin.«dict.__init__»;refine aj ?_;unfold Builtin.Dict.selfAndRest;refine aj (wpAny_notOrdered_dict AQ.typeIs ?_);show wpAny _ _ (pure (s.heap.objs.size,[cR l])) _ _ _;refine aM ?_;show wpAny _ _ (W7 "dict.__init__" s.heap.objs.size (.ref l) [] .none) _ _ _;unfold W7;refine aj (B3 (T:="list") ⟨_,eB,rfl⟩ ?_);rw[if_pos qc];refine aj (acm eB rfl rfl rfl hh λh1 tk kp=>?_);refine Nc (λ_=>?_) λz=>absurd rfl z;refine aj (vv ?_);have wO:∀b o,s.heap.get? b=a_ o->h1.get? b=a_ o:=λb o e=>kp b o (aY _ e);have sz:∀b o,s.heap.get? b=a_ o->b<s.heap.objs.size:=λb o e=>bq e;have uY:s.heap.objs.size<h1.objs.size:=bq (kp _ _ (dw _ rfl));refine aj (xC (l:=l) ⟨_,wO _ _ hl,rfl,n,rfl⟩ ?_);have A':∀b o,s.heap.get? b=a_ o->(h1.push { cls:=.type "list_iterator",data:=.fields #[.ref l,.int 0 0] }).get? b=a_ o:=λb o e=>aY _ (wO b o e);refine aM ⟨qZ BX _,ZV (A:=A.in1) (its:=its) (knd:=knd) (i:=0) (kvs:=[]) hh (cI uY) (cI (sz _ _ hl)) (cI (tw (sz _ _ hl) uY)) its ps _ _ rfl ((hp _ _ (aw _) (c8 uY)).keeps λb o _ _ e=>A' b o e) ⟨_,dw _ rfl,rfl,rfl⟩ ⟨_,A' _ _ hl,rfl,n,rfl⟩ ?_ (by simpa using hz) λh' qG kp' xk=>?_⟩
 ·obtain⟨o,es,ep,ho,r⟩:=AQ;exact⟨o,es,ep,aY _ (kp _ _ ho),r⟩
 ·exact⟨rfl,h h' qG (λb o e=>kp' b o (cI (sz b o e)) (cI (tw (sz b o e) uY)) (A' b o e)) xk⟩
end
end PySem
namespace L2
open PySem.W
section
variable{X:Cx}
def DP(H:Hp):List (Key×V)->List V->Prop
 | [],[]=>True
 | (k,v)::ps,y::ys=>(∃b,y=.ref b/\H b=a_ (.tup [kV k,v]))/\DP H ps ys
 | _,_=>False
def ma(kvs ps:List (Key×V)):List (Key×V):=ps.foldl (λacc p=>putK acc p.1 p.2) kvs
theorem KV.all:∀{ps:List (Key×V)} {qs:List (Key×f_)} {kvs:List (Key×V)} {vs:List (Key×f_)},KV kvs vs->KV ps qs->KV (ma kvs ps) (merged vs qs)
 | _,_,_,_,r,.nil=>r
 | _,_,_,_,r,.cons (a:=p) (b:=q) e es=>by
  obtain⟨k,y⟩:=p;obtain⟨k',u⟩:=q;obtain⟨rfl,ry⟩:=e;exact KV.all (kvs:=putK _ k y) (vs:=stored _ k u) (KV.put r k ry) es
theorem Oq:∀(ps kvs:List (Key×V)),(ma kvs ps).length<=kvs.length+ps.length
 | [],_=>aw _
 | p::ps,kvs=>by
  have h1:=Oq ps (putK kvs p.1 p.2);have h2:=pU kvs p.1 p.2;show (ma (putK kvs p.1 p.2) ps).length<=kvs.length+(ps.length+1);omega
theorem QV{H:Hp}{s:g_}(ok:dU X.prog X.w H s.heap):∀{ps:List (Key×V)} {ys:List V} {us:List f_},DP H ps ys->Vals ys us->∃qs,KV ps qs/\∀d it,s.heap.objs.size<=d->s.heap.objs.size<=it->t8 (gc X.prog X.w) s.heap d it qs us
 | [],[],_,_,.nil=>⟨[],.nil,λ_ _ _ _=>trivial⟩
 | (k,v)::ps,y::ys,_,⟨⟨b,e,hb⟩,hp⟩,.cons (b:=u) r rs=>by
  obtain⟨qs,r2,h2⟩:=QV ok hp rs;subst e;obtain rfl:u=cR b:=r;obtain⟨z,its,rv,pl⟩:=(show de X.prog X.w H s.heap b (.tup [kV k,v]) from ok b _ hb);obtain⟨c,d,ei,r1,r3⟩:=vals2 rv;subst ei;obtain⟨o,e1,e2,n,e3⟩:=pl;have lt:=bq e1;exact⟨(k,d)::qs,.cons ⟨rfl,r3⟩ r2,λdd it h3 h4=>⟨⟨b,o,c,n,rfl,cI (gq lt h3),cI (gq lt h4),e1,e2,e3,rS r1⟩,h2 dd it h3 h4⟩⟩
def abV:List V->Hp->VK->Prop:=λxs H Q=>∃(a:e_) (ys:List V) (ps:List (Key×V)),xs=[.ref a]/\H a=a_ (.lst ys)/\DP H ps ys/\ps.length<=a9/\∀l,H l=b_->Q (.ref l) (upd H l (.dK (ma [] ps)))
theorem Yb(hc:X.calm=c_):jC X (.type "dict") abV:=by
 intro p_ s σ H xs us Q I r h;obtain⟨a,ys,ps,rfl,e,hp,hz,q⟩:=h;obtain⟨u,rfl,rx⟩:=vals1 r;cases rx;obtain⟨z,its,n,rv,hl,e'⟩:=I.mm e;obtain⟨qs,kv,hq⟩:=QV I.aD hp rv;refine XE (knd:=gc X.prog X.w) (ps:=qs) (I.ok.hd hc) e' hq (by rw[<-kv.length];exact hz) λh' tk kp hd=>?_
 have hb:(s.heap.objs.size == oj)=false:=by
  exact beq_eq_false_iff_ne.mpr (rh I.big)
 have jc:(ma [] ps).length<=a9:=by have:=Oq ps [];simp at this;omega
 exact⟨.ref s.heap.objs.size,_,I.laid (t':=tk) kp (aw _) (Je jc hb (KV.all .nil kv) hd),rfl,q _ (I.aD.fresh (aw _))⟩
end
end L2
namespace PySem
section
variable{prog:l_}{w:k_}{A:h_}{E:f_->g_->Prop}{s:g_}{I l:e_}{xs:Array f_}
theorem Zq:B9 (.type "list_reverseiterator") "__len__" = pure none:=by rw[Nd,MJ];kernel_rfl
theorem aaN:B9 (.type "list_reverseiterator") "__length_hint__" = pure (a_ (.builtin "list_reverseiterator.__length_hint__")):=by rw[Nd,MJ];kernel_rfl
theorem X'{Q:List f_->g_->Prop}(hh:A.handled=b_)(hi:s.heap.IsRevIter I l ((xs.size:Int)-1))(hl:s.heap.IsList l xs)(eA:l≠I)(hz:xs.size<=a9)
  (h:∀(h':j_) tk,(∀b o,b≠I->s.heap.get? b=a_ o->h'.get? b=a_ o)->Q xs.toList.reverse { s with heap:=h',toks:=tk }):wpAny (model prog w) A (collect (.ref I)) Q E s:=by
 have lI:I<s.heap.objs.size:=let ⟨o,e,_⟩:=hi;bq e
 have ll:l<s.heap.objs.size:=let ⟨o,e,_⟩:=hl;bq e
 have W:=(Walks.listRev (prog:=prog) (w:=w) (A:=A.in1) hh I l eA xs).toS;unfold collect;refine aj (wpAny_runValue (qY F.entry_proto_collect ?_));rw[tf F.plain_proto_collect _];refine aj (tu ?_);refine aM ⟨qZ F.plain_list_iadd _,qY F.entry_list_iadd ?_⟩;rw[tf F.plain_list_iadd _];show wpAny _ _ (WU (.ref s.heap.objs.size) (.ref I) (.ref s.heap.objs.size)) _ _ _;have LY:(s.heap.push { cls:=.type "list",data:=.seq #[] }).IsRevIter I l ((xs.size:Int)-1):=hi.at λo e=>aY _ e;have hT:({ s with heap:=s.heap.push { cls:=.type "list",data:=.seq #[] } }:g_).TypeIs (.ref I) "list_reverseiterator":=LY.typeIs;have eB:(s.heap.push { cls:=.type "list",data:=.seq #[] }).IsList l xs:=let ⟨o,e,r⟩:=hl;⟨o,aY _ e,r⟩
 have ne:s.heap.objs.size≠I:=rh lI;unfold WU;refine aj (B3 hT ?_);rw[if_neg (by simp[Builtin.List.listSameRef,ne])];refine aj (wpAny_pyIter_revIter LY ?_);refine aj (jw ?_);unfold Builtin.List.listLengthHint;refine aj (Na hT Zq ?_);show wpAny _ _ (specialOf (cR I) (q9 "__length_hint__") >>= _) _ _ _;refine aj (Na hT aaN ?_);generalize VT:("list_reverseiterator.__length_hint__" : String)=id0
 wp_delta
 rw[show splitId id0=a_ ("list_reverseiterator","__length_hint__") from by subst VT;decide +kernel];subst VT;refine aj (MW (b:=c_) hT (by rw[isSubtype_type];kernel_rfl) ?_);refine aM ?_;rw[if_neg qc];refine aM ⟨qZ F.plain_extend_loop _,codeAny_extend_loopS W hz _ (by simp;exact⟨ne,rh ll⟩) _ xs.size 0 _ _ _ rfl (aP _) ⟨aP _,by simpa using LY,eB⟩ (dw _ rfl) (ItemsOf.nil _) λs' wy c' hm Mi AU=>?_⟩;refine aj (wpAny_load Mi (aM ?_))
 have e:wy.toList=xs.toList.reverse:=by
  refine List.ext_getElem? λi=>?_;have az:wy.size=xs.size:=AU.1
  by_cases hi:i<xs.size
  ·have g:wy[i]?=a_ (wy[i]' om):=W3 _;have e:=AU.2 i _ g;rw[List.getElem?_reverse (by simpa using hi),pN,pN,dj,g];exact e.symm
  ·rw[List.getElem?_eq_none (by simp;omega),List.getElem?_eq_none (by simp;omega)]
 rw[e,Moved.eq_with hm];exact h _ _ λb o hb e=>hm.heap b o (by simp;exact⟨cI (bq e),hb⟩) (aY _ e)
theorem XJ(hh:A.handled=b_)(hi:s.heap.IsRevIter I l ((xs.size:Int)-1))(hl:s.heap.IsList l xs)(eA:l≠I)(hz:xs.size<=a9)
  (h:∀(h':j_) tk,(∀b o,b≠I->s.heap.get? b=a_ o->h'.get? b=a_ o)->Q (.ref h'.objs.size) { s with heap:=h'.push { cls:=.type "tuple",data:=.seq xs.toList.reverse.toArray },toks:=tk }):wpAny (model prog w) A (call (.type "tuple") [.ref I]) Q E s:=by
 refine callType_codes (Q₁:=λobj s₁=>s₁.TypeIs obj "tuple"/\Q obj s₁) F.called_tuple (F.typeCall_tuple_1 _) F.entry_object_init ?_ λobj s₁ h₁=>
  ⟨h₁.1,F.args_object_init_2 obj _,object_init_meets F.called_tuple.init.lookup F.called_tuple.made qc prog w A.in1 _ s₁ ⟨h₁.1,rfl,h₁.2⟩⟩
 refine codeAny_call_builtin F.plain_tuple_new F.entry_tuple_new (Ga (F.newCall_tuple_1 _) ?_);have DV:=sub_tuple_self;have aiS:=init_tuple_lookup;have hmh:=madeHere_tuple;have hT:=hi.typeIs;have hC:=λ{Q:List f_->g_->Prop} {E:f_->g_->Prop} h=>X' (prog:=prog) (w:=w) (A:=A.in1.in1) (E:=E) (Q:=Q) hh hi hl eA hz h;obtain⟨hp,g,d,t,os⟩:=s
 wp_walk using B3 hT,hC
 intro h' tk kp;show wpAny _ _ (zu xs.toList.reverse.toArray >>= λv=>ret v) _ _ _;unfold zu;refine aj (tu ?_ (by show xs.toList.reverse.toArray.size<=a9;simpa using hz));exact aM ⟨⟨_,dw _ rfl,rfl⟩,h h' tk kp⟩
end
end PySem
namespace L2
open PySem.W
section
variable{X:Cx}
def aeW(K:u_):List V->Hp->VK->Prop:=λvs H Q=>∃(a:e_) (ys:List V),vs=[.ref a]/\ae K H a ys/\∀l,H l=b_->Q (.ref l) (upd H l (.tup ys.reverse))
theorem abb:q8 "reversed" = a_ (.type "reversed"):=by kernel_rfl
theorem aba:q8 "tuple" = a_ (.type "tuple"):=by kernel_rfl
theorem Vals.rev(h:Vals vs us):Vals vs.reverse us.reverse:=by
 induction h with
 | nil=>exact .nil
 | cons a _ ih=>
  rw[List.reverse_cons,List.reverse_cons];exact ih.append (.cons a .nil)
theorem Y8(hc:X.calm=c_)(hl:Gl X "tuple")(LR:X.mg "tuple" = b_)(hg:Gl X "reversed")(hm:X.mg "reversed" = b_)(ha:PA X [a] ta)(hs:cA [a] X.env=[(d_,eval a X.env)]:=by rfl)
  (pE:cA [.Call (.Name "reversed" p2) [a] [] sg] X.env=[(d_,eval (.Call (.Name "reversed" p2) [a] [] sg) X.env)]:=by rfl):PE X (.Call (.Name "tuple" p) [.Call (.Name "reversed" p2) [a] [] sg] [] pos) (Ec (aeW X.K) ta):=by
 intro p_ s σ H Q I h;refine tj (oH I hl LR aba ?_ qc qc);refine vg ?_ pE rfl;rw[pE];show wpAny _ _ (spliced ((d_,eval (.Call (.Name "reversed" p2) [a] [] sg) X.env)::backTo pos [])) _ _ s;refine vj (tj (oH I hg hm abb (vg (AV (ha sg p_ s σ H _ I h) λus s1 vs H1 I1 r1 q1=>?_) hs rfl) qc qc));obtain⟨a,ys,rfl,hq,q⟩:=q1;obtain⟨u,rfl,rx⟩:=vals1 r1;cases rx;obtain⟨its,r',pl,hz⟩:=I1.list hq;have hlen:=r'.length;refine call_reversed_list pl.isList (zG ?_);have la:a<s1.heap.objs.size:=let ⟨o,e,_⟩:=pl.isList;bq e
 refine XJ (l:=a) (xs:=its.toArray) (I1.ok.hd hc) ⟨_,dw _ rfl,rfl,rfl⟩ (pl.isList.push _) (cI la) (by rw[List.size_toArray];omega) λh' tk kp=>?_;have I2:Inv X p_ σ H1 { s1 with heap:=h',toks:=s1.toks }:=I1.kept (t':=s1.toks) λb o e=>kp b o (cI (bq e)) (aY _ e);refine⟨.ref _,_,I2.laid (t':=tk) (λb o e=>aY _ e) (aw _) (show de X.prog X.w _ _ _ (.tup ys.reverse) from ⟨by rw[List.length_reverse];exact hz,its.reverse,r'.rev,ON _ _⟩),rfl,q _ (I2.aD.fresh (aw _))⟩
end
end L2
namespace L2
section
variable{X:Cx}
def rRm:V->List V->Hp->VK->Prop:=λx vs H Q=>∃(l:e_) (ns:List Int) (i:Int),x=.ref l/\vs=[.int i]/\H l=a_ (.lst (ns.map V.int))/\i∈ns/\Q .aH (upd H l (.lst ((ns.erase i).map V.int)))
theorem List.MP:∀(l:List Int) (x:Int) (m:Nat) (hm:m<l.length),l[m]=x->l.idxOf x<=m
 | a::l,x,0,_,e=>by simp at e;simp[List.idxOf_cons,e]
 | a::l,x,m+1,hm,e=>by
  rw[List.idxOf_cons]
  by_cases h:a=x
  ·simp[h]
  ·have:=List.MP l x m (by simpa using hm) (by simpa using e);rw[show (a == x)=d_ from beq_eq_false_iff_ne.mpr h];exact qX this
theorem aa0{ns:List Int}{i:Int}(h:i∈ns):∃j,∃hj:j<ns.length,ns[j]=i/\(∀m (hm:m<ns.length),m<j->ns[m]≠i)/\ns.erase i=ns.eraseIdx j:=by
 refine⟨ns.idxOf i,List.idxOf_lt_length_of_mem h,by simp,λm hm bG e=>?_,List.erase_eq_eraseIdx_of_idxOf rfl⟩;exact absurd (List.MP ns i m hm e) (Nat.not_le_of_lt bG)
theorem Zn:Er X "list.remove" rRm:=by
 intro p_ s σ H x vs v us Q I rx rv h;obtain⟨l,ns,i,rfl,rfl,hH,hm,q⟩:=h;cases rx;obtain⟨u,rfl,ru⟩:=rv.one;obtain⟨t,rfl⟩:=ru;obtain⟨z,its,n,r,hl,e⟩:=I.mm hH;obtain⟨j,hj,ej,kr,ee⟩:=aa0 hm;have hlen:=r.length;rw[List.length_map]at hlen
 have at_:∀m (hm:m<its.toArray.size) (zc:m<ns.length),∃tk,its.toArray[m]=eX ns[m] tk:=λm hm zc=>by
  obtain⟨w,hw,gU⟩:=r.get (show (ns.map V.int)[m]?=a_ (.int ns[m]) by rw[List.getElem?_map,List.getElem?_eq_getElem zc];rfl);obtain⟨tk,e⟩:=gU;rw[List.getElem?_eq_getElem (by simpa using hm)]at hw;exact⟨tk,by rw[<-e];simpa using hw⟩
 have hsz:its.toArray.size=ns.length:=by rw[List.size_toArray];exact hlen.symm
 refine xR F.slot_list_remove ⟨_,e,rfl⟩ F.entry_list_remove (F.args_list_remove_2 _ _)
  (MeetsSeq.list_remove l its.toArray n (.int i t) (λy=>match y with | .int a _=>a == i | _=>d_) (λy hy=>?_) j (by rw[hsz];exact hj) ?_ (λm hm bG=>?_) (by rw[List.size_toArray];omega)) ⟨e,?_⟩
 ·obtain⟨m,hm,rfl⟩:=Array.getElem_of_mem hy;obtain⟨tk,e⟩:=at_ m hm om;rw[e];exact MeetsSeq.EqGives.int _ _ _ _
 ·obtain⟨tk,e⟩:=at_ j om hj;rw[e];simp[ej]
 ·obtain⟨tk,e⟩:=at_ m hm om;rw[e];simp[kr m om bG]
 ·refine⟨.aH,_,I.DJ (jH:=its.eraseIdx j) hH e ?_ (ys:=(ns.erase i).map V.int) ?_ ?_,rfl,q⟩
  ·show its.toArray.eraseIdxIfInBounds j=(its.eraseIdx j).toArray;rw[List.eraseIdxIfInBounds_toArray]
  ·have h1:=r.eraseIdx j;rw[ee]
   have em:∀(l:List Int) (j:Nat),(l.eraseIdx j).map V.int=(l.map V.int).eraseIdx j:=λl=>by
    induction l with
    | nil=>intro j;simp
    | cons a l ih=>intro j;cases j with
     | zero=>simp
     | succ j=>simp[ih]
   rw[em];exact h1
  ·have:=List.length_erase_le (a:=i) (l:=ns);rw[List.length_map];omega
end
section
variable{X:Cx}{p_:List (e_×Obj)}{σ:St}{H:Hp}{s:g_}{a:e_}{kvs:List (Key×V)}{k:Key}{u r:f_}{d:V}{A:h_}{E:f_->g_->Prop}
theorem aa6(I:Inv X p_ σ H s)(e:H a=a_ (.dK kvs))(ry:RelV (kV k) u)(rd:RelV d r)(hl:kvs.length<a9)(h1:∀v w' s',bh kvs k=a_ v->Inv X p_ σ H s'->RelV v w'->Q w' s')(h2:bh kvs k=b_->∀s',Inv X p_ σ (upd H a (.dK (putK kvs k d))) s'->Q r s') :
  wpAny (model X.prog X.w) A (call (.builtin "dict.setdefault") [.ref a,u,r]) Q E s:=by
 obtain⟨z,hd,vs,rel,dd⟩:=JL I.aD e;have hz:vs.length<=a9:=by rw[<-rel.length];exact z
 have rv:=rel.val k;refine B4 PySem.F.slot_dict_setdefault dd.typeIs PySem.F.entry_dict_setdefault (PySem.F.args_dict_setdefault_3 _ _ _) (kt_meets_setdefault (gc X.prog X.w) a (rS ry) hd r) ⟨vs,dd,hz,λv hv=>?_,λhv h' xv hs=>?_⟩
 ·rw[hv]at rv;cases q:bh kvs k with
  | none=>rw[q]at rv;exact rv.elim
  | some y=>rw[q]at rv;exact h1 y v _ q (I.tok _) rv
 ·rw[hv]at rv;cases q:bh kvs k with
  | some y=>rw[q]at rv;exact rv.elim
  | none=>
   have jc:(putK kvs k d).length<=a9:=by have:=pU kvs k d;omega
   have he:∃q,h'.get? a=a_ q:=let ⟨q,_,_,hq,_⟩:=xv;⟨q,hq⟩
   exact h2 q _ (Ip I (by rw[e];exact lR) hs he (Je jc hd (rel.put k rd) xv))
end
def aeN(td ty tx:TE):TE:=λσ H Q=>td σ H λx H1=>∃a,x=.ref a/\Es H1 a/\ty σ H1 λy H2=>tx σ H2 λz H3=>∃kvs k,H3 a=a_ (.dK kvs)/\y=kV k/\kvs.length<a9/\(∀v,bh kvs k=a_ v->Q v H3)/\(bh kvs k=b_->Q z (upd H3 a (.dK (putK kvs k z))))
theorem Yt{X:Cx}{td ty tx:TE}(ho:PE X o td)(he:PE X e ty)(hf:PE X f tx)(m:M2 X o "setdefault" apos e f fU):PE X (.Call (.Attribute o "setdefault" apos) [e,f] [] fU) (aeN td ty tx):=by
 intro p_ s σ H Q I h;refine MU m.base m.jr m.line PySem.F.plainAttrs_dict PySem.F.slot_dict_setdefault PySem.F.type_dict_setdefault (aI (ho p_ s σ H _ I h) λu s1 ⟨x,H1,I1,rx,a,ex,d,q1⟩=>?_);subst ex;obtain rfl:u=cR a:=rx;obtain⟨t1,t2,_⟩:=Jd I1 d;refine⟨t1,t2,?_⟩;rw[m.trees]
 refine Ft rfl (Fu (vj (aI (he p_ s1 σ H1 _ I1 q1) λiv s2 ⟨y,H2,I2,ry,q2⟩=>
  vj (aI (hf p_ s2 σ H2 _ I2 q2) λfv s3 ⟨z,H3,I3,rz,kvs,k,e3,ey,hl,q3,q4⟩=>zG ?_))))
 subst ey;exact aa6 I3 e3 ry rz hl (λv w' s4 hv I4 gU=>⟨_,H3,I4,gU,q3 v hv⟩) λhv s4 I4=>⟨_,_,I4,rz,q4 hv⟩
abbrev Cx.v3(X:Cx)(pn:List (e_×Obj))(E:f_->g_->Prop):Cx:={ X with pn:=pn,xe:=E }
section
variable{X:Cx}{p_ pl:List (e_×Obj)}{σ:St}{H:Hp}{s:g_}{E:f_->g_->Prop}
theorem aaE(ok:X.Ok)(pn:List (e_×Obj))(E:f_->g_->Prop):(X.v3 pn E).Ok:=
 ⟨ok.mod,ok.kind,ok.glob,ok.blt,ok.above,ok.inj,ok.has,ok.wF,ok.hd,ok.frames,ok.yH,ok.uH,ok.bs,ok.mG,ok.v8,ok.uj,ok.lj,ok.sv⟩
theorem YB(ok:(X.v3 pn E).Ok):X.Ok:=
 ⟨ok.mod,ok.kind,ok.glob,ok.blt,ok.above,ok.inj,ok.has,ok.wF,ok.hd,ok.frames,ok.yH,ok.uH,ok.bs,ok.mG,ok.v8,ok.uj,ok.lj,ok.sv⟩
theorem Inv.v3(I:Inv X p_ σ H s)(E:f_->g_->Prop):Inv (X.v3 (X.pn++p_) E) [] σ H s:=
 ⟨aaE I.ok _ E,I.os,I.bare,I.base,I.loc,I.cell,I.free,I.jZ,λp hp=>I.pin p (by simpa using hp),I.aD,I.len⟩
theorem Inv.CJ(I:Inv (X.v3 (X.pn++p_) E) pl σ H s):Inv X p_ σ H s:=
 ⟨YB I.ok,I.os,I.bare,I.base,I.loc,I.cell,I.free,I.jZ,λp hp=>I.pin p (List.mem_append_left _ hp),I.aD,I.len⟩
theorem abZ{body:List Stmt}{t:TS}{h:ExceptHandler}{hs:List ExceptHandler}(hb:∀pn:List (e_×Obj),fg (X.v3 pn λ_ _=>False) body t):PS X (.Try body (h::hs) [] [] pos) t:=by
 intro p_ s σ H D I q;refine wpAny_Try_except (gG (hb (X.pn++p_) [] s σ H D (I.v3 _) q) (λf s1 q=>?_) λ_ _ y=>y.elim);cases f with
 | next=>obtain⟨σ',H',I,q⟩:=q;exact BU ⟨σ',H',I.CJ,q⟩
 | brk=>obtain⟨σ',H',I,q⟩:=q;exact⟨σ',H',I.CJ,q⟩
 | cont=>obtain⟨σ',H',I,q⟩:=q;exact⟨σ',H',I.CJ,q⟩
 | ret u=>obtain⟨v,σ',H',I,r,q⟩:=q;exact⟨v,σ',H',I.CJ,r,q⟩
end
theorem As{J:It}{n:Nat}{g:TG}{tb:TS}{D:Ends}{σ:St}{H:Hp}(Pv:Nat->St->Hp->Prop)(h0:Pv 0 σ H)(LZ:∀i σ H,i<n->Pv i σ H->J.go i H)(dv:∀σ H,Pv n σ H->J.stop n H)
  (hs:∀i σ H,i<n->Pv i σ H->∀x H',J.uD i H x H'->g x σ H' λσ2 H2=>tb { D with nx:=Pv (i+1),ct:=Pv (i+1),bk:=D.nx } σ2 H2) (hd:∀σ H,Pv n σ H->D.nx σ H) :
  ∃W:Nat->Nat->St->Hp->Prop,(∃m,W 0 m σ H)/\∀i m σ H,W i m σ H->
   (J.stop i H/\D.nx σ H)\/(J.go i H/\∃N:St->Hp->Prop,(∀σ' H',N σ' H'->∃m',m'<m/\W (i+1) m' σ' H')/\∀x H',J.uD i H x H'->g x σ H' λσ2 H2=>tb { D with nx:=N,ct:=N,bk:=D.nx } σ2 H2):=by
 refine⟨λi m σ H=>m=n-i/\i<=n/\Pv i σ H,⟨n,by simp,aP _,h0⟩,?_⟩;intro i m σ H au;refine dg au λaa hi p=>?_;clear au;subst aa
 by_cases bG:i<n
 ·exact .inr ⟨LZ i σ H bG p,⟨Pv (i+1),λσ' H' p'=>⟨n-(i+1),om,rfl,bG,p'⟩,hs i σ H bG p⟩⟩
 ·have e:i=n:=li;subst e;exact .inl ⟨dv σ H p,hd σ H p⟩
end L2
namespace TL
open PySem.SeqAt L2 L3 L4
variable{P:l_}{w:k_}{K:u_}{mg:Str->Option f_}{base:j_}
def vQ(H:Hp)(v:V)(t:Tl):Prop:=∃a,v=.ref a/\H a=a_ (.tup (tv t))
def IsPart(H:Hp)(v:V)(p:Pt):Prop:=∃a vs,v=.ref a/\H a=a_ (.tup vs)/\Paired (vQ H) vs p
def tS(H:Hp)(v:V)(ps:List Pt):Prop:=∃a vs,v=.ref a/\H a=a_ (.tup vs)/\Paired (IsPart H) vs ps
theorem vQ.keep{t:Tl}(k:∀b xs,H b=a_ (.tup xs)->H' b=a_ (.tup xs))(h:vQ H v t):vQ H' v t:=by
 exact ai h λa e h=>aA a e (k _ _ h)
theorem IsPart.keep(k:∀b xs,H b=a_ (.tup xs)->H' b=a_ (.tup xs))(h:IsPart H v p):IsPart H' v p:=by
 exact dC h λa vs e h r=>dZ a vs e (k _ _ h) (Paired.b9 r λ_ _ q=>q.keep k)
theorem tS.keep(k:∀b xs,H b=a_ (.tup xs)->H' b=a_ (.tup xs))(h:tS H v p):tS H' v p:=by
 exact dC h λa vs e h r=>dZ a vs e (k _ _ h) (Paired.b9 r λ_ _ q=>q.keep k)
def Sr(b:Bool):Sp:=λvs H Q _=>∃a,vs=[.ref a]/\Q (.bl b) H
theorem abJ:bf zLf zLf (aR De):=bz
theorem aaz(F:aU K "empties" "Step.empties" De f fd):ax P w K mg base ay 1 f fd zLf (Sr d_):=by
 refine F.ok abJ λaL A _ s H vs Q E hr h=>?_
 ·refine ai h λa aa k=>?_;clear h;subst aa;exact sj (aG (bg nG)) k
structure C6(K:u_)(c:e_)(t:aZ)(aio aiv KH JY agz JX:Bool):Prop where
 cl:w_ K (.ref c) "__class__" = a_ (a_ (.builtin "object.__class__"))
 mr:A_ K c (.type "object")=a_ c_
 agZ:v_ K (.ref c) (.ref t.AK)=a_ aio
 ag1:v_ K (.ref c) (.ref t.AL)=a_ aiv
 agY:v_ K (.ref c) (.ref t.jn)=a_ KH
 ae':v_ K (.ref c) (.ref t.jB)=a_ JY
 ae9:v_ K (.ref c) (.ref t.AB)=a_ agz
 RK:v_ K (.ref c) (.ref t.i3)=a_ JX
structure mI where
 (yR:e_)
 (DM:lW)
structure yz(K:u_)(mg:Str->Option f_)(t:aZ)(u:mI):Prop where
 st:tR K mg t
 ag9:aU K "empties" "Step.empties" De u.yR u.DM
 K1:Binds K u.DM zLf []
 gt:W.specialIn K (.builtin "object.__class__") "__get__" = a_ (a_ (.builtin "getset_descriptor.__get__"))
 tk:W.takesIn K (.builtin "object.__class__")=a_ c_
 afC:Meth K t.jn "empties" u.yR
 ad6:Meth K t.jB "empties" u.yR
 ad5:Meth K t.i3 "empties" u.yR
 Kf:C6 K t.jn t d_ d_ c_ d_ d_ d_
 JF:C6 K t.jB t d_ d_ d_ c_ d_ d_
 JE:C6 K t.i3 t d_ d_ d_ d_ d_ c_
def qo(t:aZ)(H:Hp)(v:V)(s:Tl):Prop:=∃z a dx,v=.ref z/\H z=a_ (.ins (jE t s.1) dx (jk (.ref a) s.1 (s.2.map λ(n:Nat)=>V.int (n:Int))))
theorem qo.keep{t:aZ}(k:∀b C dx fs,H b=a_ (.ins C dx fs)->v=.ref b->H' b=a_ (.ins C dx fs))(h:qo t H v s):qo t H' v s:=by
 exact Aw h λz a dx e1 h=>⟨z,a,dx,e1,(k _ _ _ _ h e1)⟩
theorem Al(m:Str)(h:∀f∈(["reg","parts","name","place"]:List Str),m≠f)(v:V)(x:Str)(ps:List V):(jk v x ps).lookup m=none:=by
 have h2:=h "reg" (by simp);have h3:=h "parts" (by simp);have h5:=h "name" (by simp);have h6:=h "place" (by simp);unfold jk
 repeat (first | (split;(simp only[eG,if_neg h2,if_neg h3,if_neg h5,if_neg h6];rfl)) | (simp only[eG,if_neg h2,if_neg h3,if_neg h5,if_neg h6];rfl))
theorem Qs(t:aZ):jE t "set" = t.jn:=by kernel_rfl
theorem Py(t:aZ):jE t "look" = t.jB:=by kernel_rfl
theorem Px(t:aZ):jE t "skip" = t.i3:=by kernel_rfl
theorem Dg{t:aZ}(T:yz K mg t u){fs:List (Str×V)}{sz:Nat}(g:gf sz s)(hz:H z=a_ (.ins (jE t s.1) dx fs)) :
  ∃C:e_,H z=a_ (.ins C dx fs)/\fq K C/\Meth K C "empties" u.yR/\iO K H (.ref z) (.ref C)/\C6 K C t d_ d_ (decide (s.1 = "set")) (decide (s.1 = "look")) d_ (decide (s.1 = "skip")):=by
 cases g with
 | set r m h1 h2=>
  rw[show jE t ("set",[r,m]).1=_ from Qs t]at hz;exact⟨_,hz,T.st.rW,T.afC,iO.ins hz T.st.rW T.Kf.cl T.gt T.tk T.Kf.mr,T.Kf⟩
 | look r m h1 h2=>
  rw[show jE t ("look",[r,m]).1=_ from Py t]at hz;exact⟨_,hz,T.st.rP,T.ad6,iO.ins hz T.st.rP T.JF.cl T.gt T.tk T.JF.mr,T.JF⟩
 | skip r m h1 h2 h3=>
  rw[show jE t ("skip",[r,m]).1=_ from Px t]at hz;exact⟨_,hz,T.st.tQ,T.ad5,iO.ins hz T.st.tQ T.JE.cl T.gt T.tk T.JE.mr,T.JE⟩
structure Act where
 (k:Str) (c n:Nat) (got gave seen:Option Int)
def oV:Option Int->V
 | none=>.aH
 | some i=>.int i
def Kl(a:Act):List V:=[.str a.k,.int (a.c:Nat),.int (a.n:Nat),oV a.got,oV a.gave,oV a.seen]
def ig(H:Hp)(v:V)(a:Act):Prop:=∃p,v=.ref p/\H p=a_ (.tup (Kl a))
structure Ck where
 (pl ct:Nat) (rg:List Int) (tn:Int) (es:List Ent)
structure Mc where
 (kd:Str) (ps:List Pt) (ck:List Ck) (bd:List Int) (ac:List Act) (ov:List (List Int))
structure MA where
 (lt:e_) (ts:List (e_×e_×List e_)) (pg st pl ct rg:e_) (rs:List e_) (ce ac cm:e_) (cs:List e_)
def Rg:List Str:=["at_end","may_do","carries","moves","do","do_step","do_set","do_look","do_swap","carry","come","on_board","settle","ended","where","steps_done","registers","waiting","board","deeds","deeds_done","deed_at","over","twin"]
structure uu(fs:List (Str×V))(A:MA)(S:Mc):Prop where
 fQ:fs.lookup ("trays" : Str)=a_ (.ref A.lt)
 program:fs.lookup ("program" : Str)=a_ (.ref A.pg)
 kind:fs.lookup ("kind" : Str)=a_ (.str S.kd)
 steps:fs.lookup ("steps" : Str)=a_ (.ref A.st)
 places:fs.lookup ("places" : Str)=a_ (.ref A.pl)
 counts:fs.lookup ("counts" : Str)=a_ (.ref A.ct)
 gg:fs.lookup ("regs" : Str)=a_ (.ref A.rg)
 cells:fs.lookup ("cells" : Str)=a_ (.ref A.ce)
 iN:fs.lookup ("acts" : Str)=a_ (.ref A.ac)
 jX:fs.lookup ("comers" : Str)=a_ (.ref A.cm)
 ms:∀m∈Rg,fs.lookup m=b_
 jr:fs.length<=20
abbrev Ul(CT:e_)(kd:Str)(H:Hp)(x:e_×e_×List e_)(k:Ck):Prop:=c9 H x.1 CT kd k.tn k.es x.2.1 x.2.2
def yg(t:aZ)(H:Hp)(v:V)(p:Pt):Prop:=∃b us,v=.ref b/\H b=a_ (.tup us)/\Paired (qo t H) us p
structure aX(t:aZ)(C CT:e_)(H:Hp)(m:e_)(A:MA)(S:Mc):Prop where
 obj:∃dx fs,H m=a_ (.ins C dx fs)/\uu fs A S
 lt:H A.lt=a_ (.lst (A.ts.map λx=>V.ref x.1))
 ts:Paired (Ul CT S.kd H) A.ts S.ck
 pg:tS H (.ref A.pg) S.ps
 st:∃vs,H A.st=a_ (.tup vs)/\Paired (yg t H) vs S.ps
 pl:H A.pl=a_ (.lst (S.ck.map λk=>V.int (k.pl:Nat)))
 ct:H A.ct=a_ (.lst (S.ck.map λk=>V.int (k.ct:Nat)))
 rg:H A.rg=a_ (.lst (A.rs.map V.ref))
 rs:Paired (λa (k:Ck)=>H a=a_ (.lst (k.rg.map V.int))) A.rs S.ck
 ce:H A.ce=a_ (.lst (S.bd.map V.int))
 ac:∃vs,H A.ac=a_ (.lst vs)/\Paired (ig H) vs S.ac
 cm:H A.cm=a_ (.lst (A.cs.map V.ref))
 cs:Paired (λa (o:List Int)=>H a=a_ (.lst (o.map V.int))) A.cs S.ov
structure jq(lab:e_->Nat)(m:e_)(A:MA):Prop where
 m:lab m=2
 lt:lab A.lt=4
 pl:lab A.pl=6
 ct:lab A.ct=8
 rg:lab A.rg=10
 ce:lab A.ce=12
 ac:lab A.ac=14
 cm:lab A.cm=16
 rs:∀i a,A.rs[i]?=a_ a->lab a=24+6*i
 cs:∀i a,A.cs[i]?=a_ a->lab a=26+6*i
 ts:∀i x,A.ts[i]?=a_ x->∀b∈x.1::x.2.1::x.2.2,lab b=28+6*i
inductive cF (m:e_) (A:MA):e_->Prop
 | m:cF m A m
 | lt:cF m A A.lt
 | pl:cF m A A.pl
 | ct:cF m A A.ct
 | rg:cF m A A.rg
 | ce:cF m A A.ce
 | ac:cF m A A.ac
 | cm:cF m A A.cm
 | rs {a:e_}:a∈A.rs->cF m A a
 | cs {a:e_}:a∈A.cs->cF m A a
 | ts {x:e_×e_×List e_} {b:e_}:x∈A.ts->b∈x.1::x.2.1::x.2.2->cF m A b
structure aV(F:e_->Prop)(H H':Hp):Prop where
 k:∀b o,¬F b->(∀ps,o≠.eh ps)->H b=a_ o->H' b=a_ o
 t:∀b,H' b=b_->H b=b_
theorem aV.of{F:e_->Prop}(s:ah H H'):aV F H H':=⟨λb o _ _ e=>s b o e,λb h=>s.free h⟩
theorem aV.refl{F:e_->Prop}(H:Hp):aV F H H:=⟨λ_ _ _ _ e=>e,λ_ h=>h⟩
theorem aV.trans{F:e_->Prop}(a:aV F H H1)(b:aV F H1 H2):aV F H H2:=⟨λc o h1 h2 e=>b.k c o h1 h2 (a.k c o h1 h2 e),λc h=>a.t c (b.t c h)⟩
theorem aV.mono{F G:e_->Prop}(a:aV F H H')(h:∀b,F b->G b):aV G H H':=⟨λc o h1 h2 e=>a.k c o (λz=>h1 (h c z)) h2 e,a.t⟩
theorem aV.KS{G:e_->Prop}(a:fk F H H')(h:∀b∈F,G b):aV G H H':=⟨λc o h1 h2 e=>a.k c o (λz=>h1 (h c z)) h2 e,a.t⟩
theorem aV.upd{F:e_->Prop}{o:HO}(h:F x):aV F H (upd H x o):=⟨λb q n _ e=>by rw[ag λz=>n (by rw[z];exact h)];exact e,λb e=>by
 by_cases z:b=x
 ·rw[z,ao]at e;cases e
 ·rwa[ag z]at e⟩
theorem fk.ofA{tn:Int}(k:DB (a::q::qr) H H')(T:c9 H' a C kd tn es q qr):fk (a::q::qr) H H':=
 ⟨λc o h1 _ e=>k c o h1 e,λc h=>by
  by_cases z:c∈a::q::qr
  ·refine oE (T.there c z) λo e=>?_;rw[e]at h;cases h
  ·cases e:H c with
   | none=>rfl
   | some o=>rw[k c o z e]at h;cases h⟩
def uK:e_->Prop:=λ_=>False
theorem f6{α β:Type}{F:α->β->Prop}{G:α->β->Prop}:∀{l:List α} {r:List β},Paired F l r->(∀(i:Nat) a b,l[i]?=a_ a->r[i]?=a_ b->F a b->G a b)->Paired G l r
 | _,_,.nil,_=>.nil
 | _,_,.cons h t,k=>.cons (k 0 _ _ rfl rfl h) (f6 t λi a b e1 e2 q=>k (i+1) a b (by simpa using e1) (by simpa using e2) q)
theorem yg.keep{t:aZ}(kt:∀b xs,H b=a_ (.tup xs)->H' b=a_ (.tup xs))(ki:∀b C dx fs,H b=a_ (.ins C dx fs)->(∃x ps v,C=jE t x/\fs=jk v x ps)->H' b=a_ (.ins C dx fs))(h:yg t H v p):yg t H' v p:=by
 exact dC h λb us e h1 h2=>dZ b us e (kt _ _ h1) (Paired.b9 h2 λv s q=>Aw q λz a dx e1 q=>⟨z,a,dx,e1,(ki _ _ _ _ q (wB _ _ (aA _ rfl rfl)))⟩)
theorem ig.keep(k:∀b xs,H b=a_ (.tup xs)->H' b=a_ (.tup xs))(h:ig H v a):ig H' v a:=by
 exact ai h λp e h=>aA p e (k _ _ h)
theorem pS{α β:Type}{F:α->β->Prop}:∀{l:List α} {r:List β} {i:Nat} {y:β},Paired F l r->r[i]?=a_ y->∃x,l[i]?=a_ x/\F x y
 | _,_,_,_,.nil,e=>by simp at e
 | _,_,0,_,.cons h _,e=>by simp at e;subst e;exact⟨_,rfl,h⟩
 | _,_,i+1,x,.cons _ t,e=>by
  exact ai (pS (i:=i) t (by simpa using e)) λy h1 h2=>aA y (by simpa using h1) h2
theorem tD{α β:Type}{F:α->β->Prop}{l':List α}{r':List β}(h':Paired F l' r'):∀{l:List α} {r:List β},Paired F l r->Paired F (l++l') (r++r')
 | _,_,.nil=>h'
 | _,_,.cons g t=>.cons g (tD h' t)
theorem og{α β:Type}{F:α->β->Prop}:∀{l:List α} {m:List β} {b:α},Paired F l m->b∈l->∃y,y∈m/\F b y
 | _,_,_,.nil,h=>by simp at h
 | _,_,_,.cons h t,e=>by
  rcases List.mem_cons.mp e with z | z
  ·subst z;exact⟨_,by simp,h⟩
  ·exact ai (og t z) λy hy q=>aA y (List.mem_cons_of_mem _ hy) q
theorem aX.keep{t:aZ}(M:aX t C CT H m A S)(k:∀b,cF m A b->∀o,H b=a_ o->H' b=a_ o)(kt:∀b xs,H b=a_ (.tup xs)->H' b=a_ (.tup xs))(ki:∀b C dx fs,H b=a_ (.ins C dx fs)->H' b=a_ (.ins C dx fs)):aX t C CT H' m A S:=by
 obtain⟨⟨dx,fs,h1,h2⟩,lt,ts,pg,⟨vs,s1,s2⟩,pl,ct,rg,rs,ce,⟨us,a1,a2⟩,cm,cs⟩:=M;exact⟨⟨dx,fs,k _ .m _ h1,h2⟩,k _ .lt _ lt,f6 ts λi x c hx _ q=>q.keep (λb hb o e=>k b (.ts (List.mem_of_getElem? hx) hb) o e) kt,pg.keep kt,⟨vs,kt _ _ s1,Paired.b9 s2 λ_ _ q=>q.keep kt λb C dx fs e _=>ki b C dx fs e⟩,k _ .pl _ pl,k _ .ct _ ct,k _ .rg _ rg,f6 rs λi x c hx _ q=>k x (.rs (List.mem_of_getElem? hx)) _ q,k _ .ce _ ce,⟨us,k _ .ac _ a1,Paired.b9 a2 λ_ _ q=>q.keep kt⟩,k _ .cm _ cm,f6 cs λi x c hx _ q=>k x (.cs (List.mem_of_getElem? hx)) _ q⟩
theorem aX.RX{t:aZ}{F:e_->Prop}(M:aX t C CT H m A S)(k:aV F H H')(hF:∀b,F b->¬cF m A b/\∀o,H b=a_ o->∃xs,o=.lst xs):aX t C CT H' m A S:=by
 have nt:∀b o,cF m A b->H b=a_ o->∀ps,o≠.eh ps:=by
  intro b o hb e ps z;subst z;cases hb with
  | m=>obtain⟨dx,fs,h,_⟩:=M.obj;rw[h]at e;cases e
  | lt=>rw[M.lt]at e;cases e
  | pl=>rw[M.pl]at e;cases e
  | ct=>rw[M.ct]at e;cases e
  | rg=>rw[M.rg]at e;cases e
  | ce=>rw[M.ce]at e;cases e
  | ac=>obtain⟨vs,h,_⟩:=M.ac;rw[h]at e;cases e
  | cm=>rw[M.cm]at e;cases e
  | rs h=>
   refine ai (og M.rs h) λc _ q=>?_;rw[q]at e;cases e
  | cs h=>
   refine ai (og M.cs h) λc _ q=>?_;rw[q]at e;cases e
  | ts h h2=>
   refine ai (og M.ts h) λc _ q=>?_;rcases q.kinds _ h2 _ e with ⟨_,_,_,z⟩ | ⟨_,z⟩ <;> cases z
 refine M.keep (λb hb o e=>k.k b o (λz=>(hF b z).1 hb) (nt b o hb e) e) (λb xs e=>k.k b _ (λz=>?_) (λps z=>by cases z) e) λb C dx fs e=>k.k b _ (λz=>?_) (λps z=>by cases z) e
 ·refine oE ((hF b z).2 _ e) λys q=>?_;cases q
 ·refine oE ((hF b z).2 _ e) λys q=>?_;cases q
theorem aX.same{t:aZ}(M:aX t C CT H m A S)(s:ah H H'):aX t C CT H' m A S:=M.keep (λb _ o e=>s b o e) (λb xs e=>s b _ e) λb C dx fs e=>s b _ e
theorem aX.rQ{t:aZ}(M:aX t C CT H m A S)(k:aV uK H H'):aX t C CT H' m A S:=M.RX k λb z=>z.elim
structure eP(K:u_)(C:e_):Prop where
 cl:fq K C
 fQ:cV K C "trays"
 program:cV K C "program"
 kind:cV K C "kind"
 steps:cV K C "steps"
 places:cV K C "places"
 counts:cV K C "counts"
 gg:cV K C "regs"
 cells:cV K C "cells"
 iN:cV K C "acts"
 jX:cV K C "comers"
theorem kZ{α:Type}{f:α->V}{r:List α}{c:Nat}{k:α}(h:r[c]?=a_ k):eU (r.map f) (c:Int)=a_ (f k):=cX (by rw[List.getElem?_map,h];rfl)
theorem zQ{l:List (e_×e_×List e_)}{c:Nat}{x:e_×e_×List e_}(h:l[c]?=a_ x):eU (l.map λx=>V.ref x.1) (c:Int)=a_ (.ref x.1):=kZ (f:=λx:e_×e_×List e_=>V.ref x.1) h
structure gC(S:Mc):Prop where
 good:yp S.ps
 len:S.ck.length=S.ps.length
 bd:S.bd.length=12
 ov:S.ov.length=12
 rg:∀k∈S.ck,k.rg.length=4
 pl:∀(c:Nat) k p,S.ck[c]?=a_ k->S.ps[c]?=a_ p->k.pl<=p.length
 ac:S.ac.length<=15000
 es:∀k∈S.ck,k.es.length<=S.ac.length
section
variable{t:aZ}{C CT:e_}{H:Hp}{m:e_}{A:MA}{S:Mc}
theorem aX.ue(M:aX t C CT H m A S){c:Nat}{k:Ck}(h:S.ck[c]?=a_ k):∃x,A.ts[c]?=a_ x/\Ul CT S.kd H x k:=pS M.ts h
theorem aX.gg(M:aX t C CT H m A S){c:Nat}{k:Ck}(h:S.ck[c]?=a_ k):∃a,A.rs[c]?=a_ a/\H a=a_ (.lst (k.rg.map V.int)):=pS (F:=λa (k:Ck)=>H a=a_ (.lst (k.rg.map V.int))) M.rs h
theorem aX.over(M:aX t C CT H m A S){n:Nat}(h:S.ov[n]?=a_ o):∃a,A.cs[n]?=a_ a/\H a=a_ (.lst (o.map V.int)):=pS (F:=λa (o:List Int)=>H a=a_ (.lst (o.map V.int))) M.cs h
theorem aX.part(M:aX t C CT H m A S){c:Nat}(h:S.ps[c]?=a_ p):∃vs b us,H A.st=a_ (.tup vs)/\vs[c]?=a_ (.ref b)/\H b=a_ (.tup us)/\Paired (qo t H) us p:=by
 refine ai M.st λvs h1 h2=>ai (pS h2 h) λv hv aa=>dC aa λb us aa h3 h4=>?_;subst aa;exact⟨vs,b,us,h1,hv,h3,h4⟩
end
section
variable{t:aZ}{C CT:e_}
def PZ(t:aZ)(C CT:e_):Sp:=λvs H Q _=>∃m A S c k p,vs=[.ref m,.int (c:Nat)]/\aX t C CT H m A S/\S.ck[c]?=a_ k/\S.ps[c]?=a_ p/\p.length<=1000/\Q (.bl (decide (k.pl=p.length))) H
theorem abM:bf zLd zLd (aR IQ):=bz
theorem vH(a b:Nat):decide (V.int (a:Int)=V.int (b:Int))=decide (a=b):=decide_eq_decide.mpr ⟨λz=>by injection z with z;lia,λz=>by rw[z]⟩
theorem aaD(F:aU K "at_end" "Machine.at_end" IQ f fd)(cW:mg "len" = b_)(cM:eP K C):ax P w K mg base ay 1 f fd zLd (PZ t C CT):=by
 refine F.ok abM λaL A _ s H vs Q E hr h=>?_
 ·obtain⟨m,A,S,c,k,p,aa,M,hk,hp,a8⟩:=h;subst aa;refine oA a8 λhl q=>sj (aG (bg (kU cH (aJ cD (cc (pv 0) rfl) (pv 1)) (bw dP rfl cW q_ (ab (aJ cq (cc (pv 0) rfl) (pv 1)) af)) (a7 _)))) (bX (id M.obj) λdx fs hm G=>iY (M.part hp) λvs b us h1 h2 aa=>oA aa λh3 h4=>vF rfl hm cM.cl cM.places G.places (vr rfl (rL (ae.of M.pl) (kZ (f:=λk:Ck=>V.int (k.pl:Nat)) hk) (vF rfl hm cM.cl cM.steps G.steps (vr rfl (rT (v:=.ref b) (aB.of h1) (cX h2) (⟨b,us,rfl,(.inr (aB.of h3)),rfl,?_⟩)))))));rw[r_ h4,vH];exact q
def Af(t:aZ)(C CT:e_):Sp:=λvs H Q _=>∃m A S,vs=[.ref m]/\aX t C CT H m A S/\∀l ws,H l=b_->Paired (ig H) ws S.ac->Q (.ref l) (upd H l (.lst ws))
theorem abK:bf zLf zLf (aR IK):=bz
theorem aaB(F:aU K "deeds" "Machine.deeds" IK f fd)(Bo:mg "list" = b_)(cM:eP K C):ax P w K mg base ay 1 f fd zLf (Af t C CT):=by
 refine F.ok abK λaL A _ s H vs Q E hr h=>?_
 ·refine iY h λm A S aa M q=>?_;clear h;subst aa;exact sj (aG (bg (pZ Nu rfl Bo G9 (ab (cc (pv 0) rfl) af)))) (bX (id M.obj) λdx fs hm G=>ai M.ac λws h1 h2=>vF rfl hm cM.cl cM.iN G.iN ⟨A.ac,⟨_,rfl,.inl (ae.of h1),λl hl=>q l ws hl h2⟩⟩)
def C5(t:aZ)(C CT:e_):Sp:=λvs H Q _=>∃m A S n o,vs=[.ref m,.int (n:Nat)]/\aX t C CT H m A S/\S.ov[n]?=a_ o/\∀l,H l=b_->Q (.ref l) (upd H l (.lst (o.map V.int)))
theorem ac4:bf zLc zLc (aR Jt):=bz
theorem aca(F:aU K "over" "Machine.over" Jt f fd)(Bo:mg "list" = b_)(cM:eP K C):ax P w K mg base ay 1 f fd zLc (C5 t C CT):=by
 refine F.ok ac4 λaL A _ s H vs Q E hr h=>?_
 ·refine fj h λm A S n o aa=>nK aa λaa M hn q=>?_;subst aa;exact sj (aG (bg (pZ Nu rfl Bo G9 (ab (aJ cD (cc (pv 0) rfl) (pv 1)) af)))) (bX (id M.obj) λdx fs hm G=>ai (M.over hn) λa ha nW=>vF rfl hm cM.cl cM.jX G.jX (vr rfl (rL (v:=.ref a) (ae.of M.cm) (kZ ha) ⟨a,⟨_,rfl,.inl (ae.of nW),q⟩⟩)))
def Oe(t:aZ)(C CT:e_):Sp:=λvs H Q _=>∃m A S c k,vs=[.ref m,.int (c:Nat)]/\aX t C CT H m A S/\S.ck[c]?=a_ k/\k.es=[]/\∀H' l,ah H H'->H' l=a_ (.lst [])->Q (.ref l) H'
theorem Y3:bf zLd zLd (aR Hj):=bz
theorem Yv(F:aU K "waiting" "Machine.waiting" Hj f fd)(cM:eP K C)(cT:ke K CT)(GL:ax P w K mg base ay 1 fL BE zLf (OV CT))(bL:Binds K BE zLf [])(mL:Meth K CT "listed" fL):ax P w K mg base ay 2 f fd zLd (Oe t C CT):=by
 refine F.ok Y3 λaL A _ s H vs Q E hr h=>?_
 ·refine fj h λm A S c k aa=>JC aa λaa M hk hl q=>?_;subst aa;exact sj (aG (bg (jT (aJ cD (cc (pv 0) rfl) (pv 1)) cT.cl mL GL hr bL .nil aT))) (bX (id M.obj) λdx fs hm G=>ai (M.ue hk) λx hx T=>dX (id T.obj) λsY pK ea e1 e2 e3 em el=>vF rfl hm cM.cl cM.fQ G.fQ (vr rfl (rL (v:=.ref x.1) (ae.of M.lt) (zQ hx) (rM ea (em _ dk) ⟨x.1,_,_,_,_,rfl,by rw[<-hl];exact T,q⟩))))
end
theorem fo{a b c m:Nat}(l:a<b:=by decide):a≠b+m*c:=λh=>nu a (gq l (h ▸ FE b (m*c)))
theorem nQ{a b c m:Nat}(l:a<b:=by decide):b+m*c≠a:=λe=>fo (l:=l) e.symm
theorem yM{a b i c m:Nat}(l:a%m≠b%m:=by decide):a+m*i≠b+m*c:=λh=>l (by rw[<-W0 a m i,h,W0])
theorem yL{a b i c:Nat}(h:i≠c:=by with_reducible assumption):a+(b+1)*i≠a+(b+1)*c:=λe=>h (Nat.eq_of_mul_eq_mul_left (Ny b) (Nat.add_left_cancel e))
theorem eK{a b:Nat}(n:a≠b:=by decide):a≠b:=n
theorem bu{p q a b:Nat}(e1:p=a)(e2:q=b)(n:a≠b):p≠q:=λh=>n (e1.symm.trans (h.trans e2))
theorem oT{p q a:Nat}(e1:p=a)(n:a≠q):p≠q:=λh=>n (e1.symm.trans h)
theorem br{lab:e_->Nat}(h:lab a≠lab b):a≠b:=λe=>h (by rw[e])
theorem xI{α β:Type}{f:α->β}{r:List α}{c:Nat}{k k':α}(h:r[c]?=a_ k)(e:f k'=f k):(r.set c k').map f=r.map f:=by
 rw[List.map_set,e];refine oE (List.getElem?_eq_some_iff.mp h) λhc hk=>?_;rw[<-hk]
 exact List.ext_getElem? λi=>by
  rw[List.getElem?_set]
  split
  ·rename_i hi
   subst hi
   split
   ·rw[List.getElem?_map,List.getElem?_eq_getElem hc];rfl
   ·rename_i hn;rw[List.length_map]at hn;exact absurd hc hn
  ·rfl
theorem vo{α β:Type}{F:α->β->Prop}{b':β}:∀{l:List α} {r:List β} {c:Nat} {b:β},Paired F l r->r[c]?=a_ b->(∀a,l[c]?=a_ a->F a b->F a b')->Paired F l (r.set c b')
 | _,_,_,_,.nil,_,_=>.nil
 | _,_,0,b,.cons h t,e,k=>by
  simp only[List.getElem?_cons_zero,xD]at e;subst e;exact .cons (k _ rfl h) t
 | _,_,c+1,b,.cons h t,e,k=>by
  rw[List.getElem?_cons_succ]at e;exact .cons h (vo t e λa ha=>k a (by simpa using ha))
theorem B6{α β:Type}{F G:α->β->Prop}{b':β}:∀{l:List α} {r:List β} {c:Nat},Paired F l r->(∀i a b,i≠c->l[i]?=a_ a->r[i]?=a_ b->F a b->G a b)->(∀a b,l[c]?=a_ a->r[c]?=a_ b->F a b->G a b')->Paired G l (r.set c b')
 | _,_,_,.nil,_,_=>.nil
 | _,_,0,.cons h t,k,k'=>by
  refine .cons (k' _ _ rfl rfl h) (f6 t λi a b e1 e2 q=>k (i+1) a b li (by simpa using e1) (by simpa using e2) q)
 | _,_,c+1,.cons h t,k,k'=>by
  refine .cons (k 0 _ _ li rfl rfl h) (B6 t (λi a b hi e1 e2 q=>k (i+1) a b li (by simpa using e1) (by simpa using e2) q) λa b e1 e2 q=>k' a b (by simpa using e1) (by simpa using e2) q)
theorem kI{α β:Type}{F:α->β->Prop}{a:α}{b:β}:∀{l:List α} {r:List β},Paired F l r->F a b->Paired F (l++[a]) (r++[b])
 | _,_,.nil,h=>.cons h .nil
 | _,_,.cons g t,h=>.cons g (kI t h)
section
variable{t:aZ}{C CT:e_}{H:Hp}{m:e_}{A:MA}{S:Mc}{lab:e_->Nat}
theorem oz{o:HO}(hx:H x=a_ (.lst xs)):∀b ys,H b=a_ (.tup ys)->upd H x o b=a_ (.tup ys):=λb ys e=>by rw[ag (ie e hx (by intro z;cases z))];exact e
theorem yc{o:HO}(hx:H x=a_ (.lst xs)):∀b C dx fs,H b=a_ (.ins C dx fs)->upd H x o b=a_ (.ins C dx fs):=λb C dx fs e=>by rw[ag (ie e hx (by intro z;cases z))];exact e
theorem Qi{PT x:e_}{o:HO}(hx:H x=a_ (.lst xs))(h:cY PT pos q H):cY PT pos q (upd H x o):=
 zR (F:=[x]) h (λb o' n e=>by rw[ag λz=>n (by rw[z];exact List.mem_singleton.mpr rfl)];exact e) λb hb o' e=>by rw[List.mem_singleton.mp hb,hx]at e;cases e;exact .inr ⟨_,rfl⟩
theorem aeD(M:aX t C CT H m A S)(L:jq lab m A){c:Nat}{k:Ck}(hk:S.ck[c]?=a_ k)(v:Nat):aX t C CT (upd H A.pl (.lst ((S.ck.map λk=>V.int (k.pl:Nat)).set c (.int (v:Nat))))) m A { S with ck:=S.ck.set c { k with pl:=v } }:=by
 obtain⟨⟨dx,fs,h1,h2⟩,lt,ts,pg,⟨vs,s1,s2⟩,pl,ct,rg,rs,ce,⟨us,a1,a2⟩,cm,cs⟩:=M;have ba:=L.pl;have kt:=oz (o:=.lst ((S.ck.map λk=>V.int (k.pl:Nat)).set c (.int (v:Nat)))) pl;have ki:=yc (o:=.lst ((S.ck.map λk=>V.int (k.pl:Nat)).set c (.int (v:Nat)))) pl;have h2:uu fs A { S with ck:=S.ck.set c { k with pl:=v } }:=⟨h2.fQ,h2.program,h2.kind,h2.steps,h2.places,h2.counts,h2.gg,h2.cells,h2.iN,h2.jX,h2.ms,h2.jr⟩
 exact⟨⟨dx,fs,(ag (br (lab:=lab) (bu L.m ba eK))).trans h1,h2⟩,(ag (br (lab:=lab) (bu L.lt ba eK))).trans lt,vo (f6 ts λi x c hx _ q=>c9.keep q (λb hb o e=>(ag (br (lab:=lab) (bu (L.ts i x hx b hb) ba nQ))).trans e) kt) hk λa _ q=>q,pg.keep kt,⟨vs,kt _ _ s1,Paired.b9 s2 λ_ _ q=>q.keep kt λb C dx fs e _=>ki b C dx fs e⟩,by
   show upd H _ _ A.pl=a_ (.lst ((S.ck.set c { k with pl:=v }).map λk=>V.int (k.pl:Nat)));rw[ao,List.map_set],by
   show upd H _ _ A.ct=a_ (.lst ((S.ck.set c { k with pl:=v }).map λk=>V.int (k.ct:Nat)));rw[xI (f:=λk:Ck=>V.int (k.ct:Nat)) (k':={ k with pl:=v }) hk rfl];exact(ag (br (lab:=lab) (bu L.ct ba eK))).trans ct,(ag (br (lab:=lab) (bu L.rg ba eK))).trans rg,vo (f6 rs λi x c hx _ q=>(ag (br (lab:=lab) (bu (L.rs i x hx) ba nQ))).trans q) hk λa _ q=>q,(ag (br (lab:=lab) (bu L.ce ba eK))).trans ce,⟨us,(ag (br (lab:=lab) (bu L.ac ba eK))).trans a1,Paired.b9 a2 λ_ _ q=>q.keep kt⟩,(ag (br (lab:=lab) (bu L.cm ba eK))).trans cm,f6 cs λi x c hx _ q=>(ag (br (lab:=lab) (bu (L.cs i x hx) ba nQ))).trans q⟩
theorem aeF(M:aX t C CT H m A S)(L:jq lab m A){c:Nat}{k:Ck}(hk:S.ck[c]?=a_ k)(v:Nat):aX t C CT (upd H A.ct (.lst ((S.ck.map λk=>V.int (k.ct:Nat)).set c (.int (v:Nat))))) m A { S with ck:=S.ck.set c { k with ct:=v } }:=by
 obtain⟨⟨dx,fs,h1,h2⟩,lt,ts,pg,⟨vs,s1,s2⟩,pl,ct,rg,rs,ce,⟨us,a1,a2⟩,cm,cs⟩:=M;have ba:=L.ct;have kt:=oz (o:=.lst ((S.ck.map λk=>V.int (k.ct:Nat)).set c (.int (v:Nat)))) ct;have ki:=yc (o:=.lst ((S.ck.map λk=>V.int (k.ct:Nat)).set c (.int (v:Nat)))) ct;have h2:uu fs A { S with ck:=S.ck.set c { k with ct:=v } }:=⟨h2.fQ,h2.program,h2.kind,h2.steps,h2.places,h2.counts,h2.gg,h2.cells,h2.iN,h2.jX,h2.ms,h2.jr⟩
 exact⟨⟨dx,fs,(ag (br (lab:=lab) (bu L.m ba eK))).trans h1,h2⟩,(ag (br (lab:=lab) (bu L.lt ba eK))).trans lt,vo (f6 ts λi x c hx _ q=>c9.keep q (λb hb o e=>(ag (br (lab:=lab) (bu (L.ts i x hx b hb) ba nQ))).trans e) kt) hk λa _ q=>q,pg.keep kt,⟨vs,kt _ _ s1,Paired.b9 s2 λ_ _ q=>q.keep kt λb C dx fs e _=>ki b C dx fs e⟩,by
   show upd H _ _ A.pl=a_ (.lst ((S.ck.set c { k with ct:=v }).map λk=>V.int (k.pl:Nat)));rw[xI (f:=λk:Ck=>V.int (k.pl:Nat)) (k':={ k with ct:=v }) hk rfl];exact(ag (br (lab:=lab) (bu L.pl ba eK))).trans pl,by
   show upd H _ _ A.ct=a_ (.lst ((S.ck.set c { k with ct:=v }).map λk=>V.int (k.ct:Nat)));rw[ao,List.map_set],(ag (br (lab:=lab) (bu L.rg ba eK))).trans rg,vo (f6 rs λi x c hx _ q=>(ag (br (lab:=lab) (bu (L.rs i x hx) ba nQ))).trans q) hk λa _ q=>q,(ag (br (lab:=lab) (bu L.ce ba eK))).trans ce,⟨us,(ag (br (lab:=lab) (bu L.ac ba eK))).trans a1,Paired.b9 a2 λ_ _ q=>q.keep kt⟩,(ag (br (lab:=lab) (bu L.cm ba eK))).trans cm,f6 cs λi x c hx _ q=>(ag (br (lab:=lab) (bu (L.cs i x hx) ba nQ))).trans q⟩
theorem aeC(M:aX t C CT H m A S)(L:jq lab m A){c:Nat}{k:Ck}(hk:S.ck[c]?=a_ k)(ha:A.rs[c]?=a_ a)(r:Nat)(v:Int):aX t C CT (upd H a (.lst ((k.rg.map V.int).set r (.int v)))) m A { S with ck:=S.ck.set c { k with rg:=k.rg.set r v } }:=by
 obtain⟨⟨dx,fs,h1,h2⟩,lt,ts,pg,⟨vs,s1,s2⟩,pl,ct,rg,rs,ce,⟨us,a1,a2⟩,cm,cs⟩:=M
 have mZ:H a=a_ (.lst (k.rg.map V.int)):=by
  refine ai (B7 rs ha) λk2 e2 q=>?_;rw[hk]at e2;cases e2;exact q
 have ba:=L.rs c a ha;have kt:=oz (o:=.lst ((k.rg.map V.int).set r (.int v))) mZ;have ki:=yc (o:=.lst ((k.rg.map V.int).set r (.int v))) mZ;have h2:uu fs A { S with ck:=S.ck.set c { k with rg:=k.rg.set r v } }:=⟨h2.fQ,h2.program,h2.kind,h2.steps,h2.places,h2.counts,h2.gg,h2.cells,h2.iN,h2.jX,h2.ms,h2.jr⟩
 exact⟨⟨dx,fs,(ag (br (lab:=lab) (bu L.m ba fo))).trans h1,h2⟩,(ag (br (lab:=lab) (bu L.lt ba fo))).trans lt,vo (f6 ts λi x c hx _ q=>c9.keep q (λb hb o e=>(ag (br (lab:=lab) (bu (L.ts i x hx b hb) ba yM))).trans e) kt) hk λa _ q=>q,pg.keep kt,⟨vs,kt _ _ s1,Paired.b9 s2 λ_ _ q=>q.keep kt λb C dx fs e _=>ki b C dx fs e⟩,by
   show upd H _ _ A.pl=a_ (.lst ((S.ck.set c { k with rg:=k.rg.set r v }).map λk=>V.int (k.pl:Nat)));rw[xI (f:=λk:Ck=>V.int (k.pl:Nat)) (k':={ k with rg:=k.rg.set r v }) hk rfl];exact(ag (br (lab:=lab) (bu L.pl ba fo))).trans pl,by
   show upd H _ _ A.ct=a_ (.lst ((S.ck.set c { k with rg:=k.rg.set r v }).map λk=>V.int (k.ct:Nat)));rw[xI (f:=λk:Ck=>V.int (k.ct:Nat)) (k':={ k with rg:=k.rg.set r v }) hk rfl];exact(ag (br (lab:=lab) (bu L.ct ba fo))).trans ct,(ag (br (lab:=lab) (bu L.rg ba fo))).trans rg,B6 rs (λi x b hi hx _ q=>(ag (br (lab:=lab) (bu (L.rs i x hx) ba yL))).trans q) λx b hx hb q=>by
   rw[ha]at hx;cases hx;show upd H a _ a=a_ (.lst ((k.rg.set r v).map V.int));rw[ao,List.map_set],(ag (br (lab:=lab) (bu L.ce ba fo))).trans ce,⟨us,(ag (br (lab:=lab) (bu L.ac ba fo))).trans a1,Paired.b9 a2 λ_ _ q=>q.keep kt⟩,(ag (br (lab:=lab) (bu L.cm ba fo))).trans cm,f6 cs λi x c hx _ q=>(ag (br (lab:=lab) (bu (L.cs i x hx) ba yM))).trans q⟩
theorem aeG(M:aX t C CT H m A S)(L:jq lab m A)(n:Nat)(v:Int):aX t C CT (upd H A.ce (.lst ((S.bd.map V.int).set n (.int v)))) m A { S with bd:=S.bd.set n v }:=by
 obtain⟨⟨dx,fs,h1,h2⟩,lt,ts,pg,⟨vs,s1,s2⟩,pl,ct,rg,rs,ce,⟨us,a1,a2⟩,cm,cs⟩:=M;have ba:=L.ce;have kt:=oz (o:=.lst ((S.bd.map V.int).set n (.int v))) ce;have ki:=yc (o:=.lst ((S.bd.map V.int).set n (.int v))) ce;have h2:uu fs A { S with bd:=S.bd.set n v }:=⟨h2.fQ,h2.program,h2.kind,h2.steps,h2.places,h2.counts,h2.gg,h2.cells,h2.iN,h2.jX,h2.ms,h2.jr⟩
 exact⟨⟨dx,fs,(ag (br (lab:=lab) (bu L.m ba eK))).trans h1,h2⟩,(ag (br (lab:=lab) (bu L.lt ba eK))).trans lt,f6 ts λi x c hx _ q=>c9.keep q (λb hb o e=>(ag (br (lab:=lab) (bu (L.ts i x hx b hb) ba nQ))).trans e) kt,pg.keep kt,⟨vs,kt _ _ s1,Paired.b9 s2 λ_ _ q=>q.keep kt λb C dx fs e _=>ki b C dx fs e⟩,(ag (br (lab:=lab) (bu L.pl ba eK))).trans pl,(ag (br (lab:=lab) (bu L.ct ba eK))).trans ct,(ag (br (lab:=lab) (bu L.rg ba eK))).trans rg,f6 rs λi x c hx _ q=>(ag (br (lab:=lab) (bu (L.rs i x hx) ba nQ))).trans q,by
   show upd H _ _ A.ce=a_ (.lst ((S.bd.set n v).map V.int));rw[ao,List.map_set],⟨us,(ag (br (lab:=lab) (bu L.ac ba eK))).trans a1,Paired.b9 a2 λ_ _ q=>q.keep kt⟩,(ag (br (lab:=lab) (bu L.cm ba eK))).trans cm,f6 cs λi x c hx _ q=>(ag (br (lab:=lab) (bu (L.cs i x hx) ba nQ))).trans q⟩
theorem Rz(M:aX t C CT H m A S)(L:jq lab m A){ws:List V}(hw:H A.ac=a_ (.lst ws))(hx:ig H x a):aX t C CT (upd H A.ac (.lst (ws++[x]))) m A { S with ac:=S.ac++[a] }:=by
 obtain⟨⟨dx,fs,h1,h2⟩,lt,ts,pg,⟨vs,s1,s2⟩,pl,ct,rg,rs,ce,⟨us,a1,a2⟩,cm,cs⟩:=M;obtain rfl:ws=us:=by rw[hw]at a1;cases a1;rfl
 have ba:=L.ac;have kt:=oz (o:=.lst (ws++[x])) hw;have ki:=yc (o:=.lst (ws++[x])) hw;have h2:uu fs A { S with ac:=S.ac++[a] }:=⟨h2.fQ,h2.program,h2.kind,h2.steps,h2.places,h2.counts,h2.gg,h2.cells,h2.iN,h2.jX,h2.ms,h2.jr⟩;exact⟨⟨dx,fs,(ag (br (lab:=lab) (bu L.m ba eK))).trans h1,h2⟩,(ag (br (lab:=lab) (bu L.lt ba eK))).trans lt,f6 ts λi x c hx _ q=>c9.keep q (λb hb o e=>(ag (br (lab:=lab) (bu (L.ts i x hx b hb) ba nQ))).trans e) kt,pg.keep kt,⟨vs,kt _ _ s1,Paired.b9 s2 λ_ _ q=>q.keep kt λb C dx fs e _=>ki b C dx fs e⟩,(ag (br (lab:=lab) (bu L.pl ba eK))).trans pl,(ag (br (lab:=lab) (bu L.ct ba eK))).trans ct,(ag (br (lab:=lab) (bu L.rg ba eK))).trans rg,f6 rs λi x c hx _ q=>(ag (br (lab:=lab) (bu (L.rs i x hx) ba nQ))).trans q,(ag (br (lab:=lab) (bu L.ce ba eK))).trans ce,⟨ws++[x],ao,kI (Paired.b9 a2 λ_ _ q=>q.keep kt) (hx.keep kt)⟩,(ag (br (lab:=lab) (bu L.cm ba eK))).trans cm,f6 cs λi x c hx _ q=>(ag (br (lab:=lab) (bu (L.cs i x hx) ba nQ))).trans q⟩
theorem aeE(M:aX t C CT H m A S)(L:jq lab m A){n:Nat}(hn:S.ov[n]?=a_ ov)(ha:A.cs[n]?=a_ a)(d:Int):aX t C CT (upd H a (.lst (ov.map V.int++[.int d]))) m A { S with ov:=S.ov.set n (ov++[d]) }:=by
 obtain⟨⟨dx,fs,h1,h2⟩,lt,ts,pg,⟨vs,s1,s2⟩,pl,ct,rg,rs,ce,⟨us,a1,a2⟩,cm,cs⟩:=M
 have nW:H a=a_ (.lst (ov.map V.int)):=by
  refine ai (B7 cs ha) λo2 e2 q=>?_;rw[hn]at e2;cases e2;exact q
 have ba:=L.cs n a ha;have kt:=oz (o:=.lst (ov.map V.int++[.int d])) nW;have ki:=yc (o:=.lst (ov.map V.int++[.int d])) nW;have h2:uu fs A { S with ov:=S.ov.set n (ov++[d]) }:=⟨h2.fQ,h2.program,h2.kind,h2.steps,h2.places,h2.counts,h2.gg,h2.cells,h2.iN,h2.jX,h2.ms,h2.jr⟩
 exact⟨⟨dx,fs,(ag (br (lab:=lab) (bu L.m ba fo))).trans h1,h2⟩,(ag (br (lab:=lab) (bu L.lt ba fo))).trans lt,f6 ts λi x c hx _ q=>c9.keep q (λb hb o e=>(ag (br (lab:=lab) (bu (L.ts i x hx b hb) ba yM))).trans e) kt,pg.keep kt,⟨vs,kt _ _ s1,Paired.b9 s2 λ_ _ q=>q.keep kt λb C dx fs e _=>ki b C dx fs e⟩,(ag (br (lab:=lab) (bu L.pl ba fo))).trans pl,(ag (br (lab:=lab) (bu L.ct ba fo))).trans ct,(ag (br (lab:=lab) (bu L.rg ba fo))).trans rg,f6 rs λi x c hx _ q=>(ag (br (lab:=lab) (bu (L.rs i x hx) ba yM))).trans q,(ag (br (lab:=lab) (bu L.ce ba fo))).trans ce,⟨us,(ag (br (lab:=lab) (bu L.ac ba fo))).trans a1,Paired.b9 a2 λ_ _ q=>q.keep kt⟩,(ag (br (lab:=lab) (bu L.cm ba fo))).trans cm,B6 cs (λi x b hi hx _ q=>(ag (br (lab:=lab) (bu (L.cs i x hx) ba yL))).trans q) λx b hx hb q=>by
   rw[ha]at hx;cases hx;rw[ao,List.map_append];rfl⟩
theorem Ry{c:Nat}{k:Ck}{x:e_×e_×List e_}{tn:Int}(M:aX t C CT H m A S)(L:jq lab m A)(hk:S.ck[c]?=a_ k)(hx:A.ts[c]?=a_ x)(kp:fk (x.1::x.2.1::x.2.2) H H')(T:c9 H' x.1 CT S.kd tn es x.2.1 x.2.2) :
  aX t C CT H' m A { S with ck:=S.ck.set c { k with tn:=tn,es:=es } }:=by
 obtain⟨⟨dx,fs,h1,h2⟩,lt,ts,pg,⟨vs,s1,s2⟩,pl,ct,rg,rs,ce,⟨us,a1,a2⟩,cm,cs⟩:=M;refine ai (B7 ts hx) λk0 e0 T0=>?_;rw[hk]at e0;cases e0;have ba:=L.ts c x hx;have out:∀b o,lab b≠28+6*c->(∀ps,o≠.eh ps)->H b=a_ o->H' b=a_ o:=λb o n z e=>kp.k b o (λhb=>n (ba b hb)) z e;have kt:∀b ys,H b=a_ (.tup ys)->H' b=a_ (.tup ys):=λb ys e=>kp.k b _ (λhb=>by rcases T0.kinds b hb _ e with ⟨_,_,_,z⟩ | ⟨_,z⟩ <;> cases z) (λps z=>by cases z) e
 have ki:∀b C dx fs,H b=a_ (.ins C dx fs)->(∃x ps v,C=jE t x/\fs=jk v x ps)->H' b=a_ (.ins C dx fs):=λb C dx fs e hs=>kp.k b _ (λhb=>by
  obtain⟨x',ps,v,_,aa⟩:=hs;subst aa;rcases List.mem_cons.mp hb with z | z
  ·refine dC T0.obj λBM lM e' m8 _=>?_;rw[z,e']at e;cases e;rw[Al "kind" dk]at m8;cases m8
  ·rcases List.mem_cons.mp z with z | z
   ·rw[z,T0.qs]at e;cases e
   ·refine oE (List.getElem_of_mem z) λi aa=>oE aa λhi ez=>?_;obtain⟨nU,e',_⟩:=T0.i7 i b (by rw[<-ez];exact List.getElem?_eq_getElem hi);rw[e']at e;cases e) (λps z=>by cases z) e
 have nl:∀ys:List V,∀ps,HO.lst ys≠.eh ps:=λys ps z=>by cases z
 have h2:uu fs A { S with ck:=S.ck.set c { k with tn:=tn,es:=es } }:=⟨h2.fQ,h2.program,h2.kind,h2.steps,h2.places,h2.counts,h2.gg,h2.cells,h2.iN,h2.jX,h2.ms,h2.jr⟩;refine⟨⟨dx,fs,out _ _ (oT L.m fo) (λps z=>by cases z) h1,h2⟩,out _ _ (oT L.lt fo) (nl _) lt,?_,pg.keep kt,⟨vs,kt _ _ s1,Paired.b9 s2 λ_ _ q=>q.keep kt ki⟩,?_,?_,out _ _ (oT L.rg fo) (nl _) rg,?_,out _ _ (oT L.ce fo) (nl _) ce,⟨us,out _ _ (oT L.ac fo) (nl _) a1,Paired.b9 a2 λ_ _ q=>q.keep kt⟩,out _ _ (oT L.cm fo) (nl _) cm,f6 cs λi y b hy _ q=>out _ _ (oT (L.cs i y hy) yM) (nl _) q⟩
 ·refine B6 ts (λi y b hi hy _ q=>c9.keep q (λb' xq o e=>out b' o (oT (L.ts i y hy b' xq) yL) (λps z=>?_) e) kt) λy b hy hb q=>?_
  ·rcases q.kinds b' xq _ e with ⟨_,_,_,w⟩ | ⟨_,w⟩ <;> (rw[z]at w;cases w)
  ·rw[hx]at hy;cases hy;exact T
 ·show H' A.pl=a_ (.lst ((S.ck.set c { k with tn:=tn,es:=es }).map λk=>V.int (k.pl:Nat)));rw[xI (f:=λk:Ck=>V.int (k.pl:Nat)) (k':={ k with tn:=tn,es:=es }) hk rfl];exact out _ _ (oT L.pl fo) (nl _) pl
 ·show H' A.ct=a_ (.lst ((S.ck.set c { k with tn:=tn,es:=es }).map λk=>V.int (k.ct:Nat)));rw[xI (f:=λk:Ck=>V.int (k.ct:Nat)) (k':={ k with tn:=tn,es:=es }) hk rfl];exact out _ _ (oT L.ct fo) (nl _) ct
 ·exact vo (f6 rs λi y b hy _ q=>out _ _ (oT (L.rs i y hy) yM) (nl _) q) hk λa _ q=>q
end
abbrev Mv:=Str×List Int
def yP(mv:Mv):List V:=.str mv.1::mv.2.map V.int
def jo(H:Hp)(v:V)(mv:Mv):Prop:=∃p,v=.ref p/\H p=a_ (.tup (yP mv))
theorem jo.keep(k:∀b xs,H b=a_ (.tup xs)->H' b=a_ (.tup xs))(h:jo H v mv):jo H' v mv:=by
 exact ai h λp e h=>aA p e (k _ _ h)
theorem aV.tup{F:e_->Prop}(k:aV F H H')(h:∀b,F b->∀xs,H b≠a_ (.tup xs)):∀b xs,H b=a_ (.tup xs)->H' b=a_ (.tup xs):=λb xs e=>k.k b _ (λz=>h b z xs e) (λps z=>by cases z) e
theorem aV.JZ(k:aV uK H H'):∀b xs,H b=a_ (.tup xs)->H' b=a_ (.tup xs):=k.tup λb z=>z.elim
theorem aV.ui(k:aV uK H H')(e:H b=a_ (.lst xs)):H' b=a_ (.lst xs):=k.k b _ (λz=>z) (λps z=>by cases z) e
def AJ(k:Ck)(p:Pt):Bool:=decide (k.pl<p.length)
def AA(kd:Str)(x:Ck×Nat):List Mv:=(gH kd x.1.es).map λn=>(("carry" : Str),[(x.2:Int),n])
def uo(kd:Str)(l:List (Ck×Nat)):List Mv:=l.flatMap (AA kd)
def iU(S:Mc):List Mv:=uo S.kd S.ck.zipIdx
def uh(S:Mc)(c:Nat):Bool:=match S.ck[c]?,S.ps[c]? with
 | some k,a_ p=>AJ k p
 | _,_=>d_
def uk(S:Mc)(n:Nat):List Mv:=((List.range n).filter (uh S)).map λ(c:Nat)=>(("do" : Str),[(c:Int)])
def jA(S:Mc):List Mv:=uk S S.ck.length++iU S
theorem NZ(kd:Str)(es:List Ent):(gH kd es).length<=12:=by
 unfold gH
 split
 ·cases es.head? <;> simp
 ·unfold jY;rw[List.length_map];exact cx (List.length_filter_le _ _) (by rw[List.length_range];exact aw _)
theorem CF(kd:Str):∀l:List (Ck×Nat),(uo kd l).length<=12*l.length
 | []=>by simp[uo]
 | x::l=>by
  have h:=CF kd l;unfold uo at h ⊢;rw[List.flatMap_cons,List.length_append,List.length_cons];have h2:(AA kd x).length<=12:=by unfold AA;rw[List.length_map];exact NZ _ _
  lia
section
variable{t:aZ}{C CT:e_}{u:mI}
def PN(t:aZ)(C CT:e_):Sp:=λvs H Q _=>∃m A S c k p,vs=[.ref m,.int (c:Nat)]/\aX t C CT H m A S/\S.ck[c]?=a_ k/\S.ps[c]?=a_ p/\p.length<=1000/\k.pl<=p.length/\(∀s∈p,∃sz,gf sz s)/\∀H',ah H H'->Q (.bl (AJ k p)) H'
theorem P4:bf zLh zLd (aR IG):=bz
theorem aav(F:aU K "may_do" "Machine.may_do" IG f fd)(cM:eP K C)(cT:ke K CT)(O:yz K mg t u)
  (GA:ax P w K mg base ay 1 fA xt zLd (PZ t C CT)) (bA:Binds K xt zLd []) (mA:Meth K C "at_end" fA)
  (GE:ax P w K mg base ay 1 fE fdE zLf (PV CT)) (bE:Binds K fdE zLf []) (mE:Meth K CT "is_empty" fE):ax P w K mg base ay 2 f fd zLd (PN t C CT):=by
 refine F.ok P4 λaL A _ s H vs Q E hr h=>?_
 ·obtain⟨m,A,S,c,k,p,aa,M,hk,hp,a8⟩:=h;subst aa;refine nK a8 λhl hle hg q=>?_;refine let R1:TS:=_;let R2:TS:=_;⟨_,ar (bZ (gd (iW (pv 0) cM.cl mA GA hr bA .nil aT (ab (pv 1) af))) (aG (bg nG)) cp) (pR R2 (ar (bp (i:=2) P4.nd rfl (aF rfl) (aJ cq (aJ cq (cc (pv 0) rfl) (pv 1)) (aJ cD (cc (pv 0) rfl) (pv 1)))) (pR R1 (aG (bg (ae1 (jT (aJ cD (cc (pv 0) rfl) (pv 1)) cT.cl mE GE hr bE .nil aT) (tP (QW (aag (k:=1) (CX:=ay) (E:=E0) (P:=P) (w:=w) (K:=K) (mg:=mg) (base:=base) (pv 2) hr aT))))))))),?_⟩
  refine bX (id M.obj) λdx fs hm G=>ai (M.ue hk) λx hx T=>dX (id T.obj) λsY pK ea e1 e2 e3 em el=>iY (M.part hp) λvs b us h1 h2 aa=>oA aa λh3 h4=>vM rfl hm (G.ms _ dk) (vr rfl (⟨m,A,S,c,k,p,rfl,M,hk,hp,hl,(tk (bQ (λhe=>?_) λhe=>?_))⟩))
  ·have e:AJ k p=false:=decide_eq_false li;have q:=q H (ah.refl H);rw[e]at q;exact q
  have bG:k.pl<p.length:=li
  have q1:∀H1,ah H H1->Q (.bl c_) H1:=λH1 s1=>by
   have q:=q H1 s1;rwa[show AJ k p=c_ from decide_eq_true bG]at q
  have hs:p[k.pl]?=a_ p[k.pl]:=List.getElem?_eq_getElem bG;refine ai (pS h4 hs) λv hv aa=>Aw aa λz a dz aa hz=>?_;subst aa;refine oE (hg _ (List.getElem_mem bG)) λsz gs=>aA _ rfl (dY m C dx fs (jy _ rfl hm cM.cl cM.steps G.steps (vr rfl (rT (v:=.ref b) (aB.of h1) (cX h2) (vF rfl hm cM.cl cM.places G.places (vr rfl (rL (ae.of M.pl) (kZ (f:=λk:Ck=>V.int (k.pl:Nat)) hk) (rT (v:=.ref z) (aB.of h3) (cX hv) (aA _ rfl (dY m C dx fs (jy _ rfl hm cM.cl cM.fQ G.fQ (vr rfl (rL (v:=.ref x.1) (ae.of M.lt) (zQ hx) (rM ea (em _ dk) (⟨x.1,_,_,_,_,(dQ _ rfl T λH1 s1=>(tk (bQ (λhe=>q1 H1 s1) λhe=>?_)))⟩)))))))))))))))
  ·have no:=Al "empties" dk (.ref a) p[k.pl].1 (p[k.pl].2.map λ(n:Nat)=>V.int (n:Int));exact ym (Dg O gs (s1 _ _ hz)) λC1 hc cl me _ _=>aA _ rfl (⟨z,C1,dz,_,u.yR,u.DM,zLf,(Sr d_),rfl,hc,no,cl,me,(aaz O.ag9),⟨O.K1,z,rfl,_,rfl,q1 H1 s1⟩⟩)
def Gq(t:aZ)(C CT PT:e_):Sp:=λvs H Q _=>∃m A S,vs=[.ref m]/\aX t C CT H m A S/\S.ck.length<=4/\cY PT LP LQ H/\∀H' l vs,aV uK H H'->cY PT LP LQ H'->H l=b_->H' l=a_ (.lst vs)->Paired (jo H') vs (iU S)->Q (.ref l) H'
theorem Cc:bf ["self","found","clerk","tray"] zLf (aR Ho):=bz
theorem afi:(["clerk","name"]:List Str).Nodup:=dk
theorem YA{f fF PT:e_}(F:aU K "carries" "Machine.carries" Ho f fd)(cM:eP K C)(cT:ke K CT)(qR:mg "enumerate" = b_)
  (GF:ax P w K mg base ay 2 fF vd zLf (He CT PT)) (bF:Binds K vd zLf []) (mF:Meth K CT "fronts" fF):ax P w K mg base ay 3 f fd zLf (Gq t C CT PT):=by
 refine F.ok Cc λaL A _ s H vs Q E hr h=>?_
 ·obtain⟨m,A,S,aa,M,h4,hL,q⟩:=h;subst aa
  refine let R1:TS:=_;let R2:TS:=_;⟨_,ar (bp (i:=1) Cc.nd rfl (aF rfl) (dy af)) (pR R2 (ar (hV gr rfl (vD (b:=c_) rfl qR (ab (cc (pv 0) rfl) af)) (kX rfl (dn (bb (i:=2) Cc.nd rfl (tT rfl)) (dn (bb (i:=3) Cc.nd rfl (aF rfl)) kQ))) (pR R1 (aG (dq (iK m_ PySem.F.slot_list_extend PySem.F.type_list_extend Cf (pv 1) (ab (g6 (N:=["clerk","name"]) (idx:=[2]) rfl (cZ.of (by kernel_rfl)) (gF (aw _))
     (nC (jT (pv 3) cT.cl mF GF hr bF .nil aT)) (λ_ _ _ _=>bb (i:=1) afi rfl (aF rfl) (.inr rfl)) (λ_ _ _ _=>gZ) λ_ _ _ _=>iH (ab cJ (ab (pv 0) (ab (pv 1) af)))) af))))))
   (aG (bg (pv 1))))),?_⟩
  refine bX (id M.obj) λdx fs hm G=>⟨qc,λlw nw=>?_⟩;have s0:ah H (upd H lw (.lst [])):=aE (ah.refl _) nw;have hlen:=r_ M.ts;have hlm:(A.ts.map λx=>V.ref x.1).length=A.ts.length:=List.length_map _;refine vF rfl (s0 _ _ hm) cM.cl cM.fQ G.fQ ⟨A.lt,⟨_,rfl,ae.of (s0 _ _ M.lt),?_⟩⟩
  let W1:IV:=λi σ H'=>i<=A.ts.length/\∃c y vs,σ=[a_ (.ref m),a_ (.ref lw),c,y]/\aV uK H H'/\cY PT LP LQ H'/\H' lw=a_ (.lst vs)/\Paired (jo H') vs (uo S.kd (S.ck.zipIdx.take i))
  refine As (n:=A.ts.length) W1 ⟨aP _,b_,b_,[],rfl,aV.of s0,oh hL s0,ao,.nil⟩ ?_ ?_ ?_ ?_
  ·rintro i σ H' hi ⟨_,_,_,_,_,kp,_,_,_⟩;exact eO _ (V.ref A.ts[i].1) (ae.of (kp.ui M.lt)) (by rw[List.getElem?_map,List.getElem?_eq_getElem hi];rfl)
  ·rintro σ H' ⟨_,_,_,_,_,kp,_,_,_⟩;exact aA _ (ae.of (kp.ui M.lt)) (by rw[hlm];exact aw _)
  ·rintro i σ H1 hi ⟨_,c,y,vs,rfl,kp,pJ,hw,wV⟩ z H2 ⟨r,x,dE,ez,eH,eV⟩;subst ez;subst eH;have pA:=eV _ (ae.of (kp.ui M.lt));rw[List.getElem?_map,List.getElem?_eq_getElem hi]at pA;cases pA;have s2:ah H1 (upd H1 r (.tup [.int i,.ref A.ts[i].1])):=aE (ah.refl _) dE;have Bc:=s2 _ _ hw;have Tn:=Paired.b9 wV λ_ _ q=>jo.keep (λb xs e=>s2 _ _ e) q;have jQ:=oh pJ s2;have VD:upd H1 r (.tup [.int i,.ref A.ts[i].1]) r=a_ (.tup [.int i,.ref A.ts[i].1]):=ao;generalize upd H1 r (.tup [.int i,.ref A.ts[i].1])=H2 at s2 Bc Tn jQ VD ⊢;have qJ:=kp.trans (aV.of s2);have M2:=M.rQ qJ;have VY:=wf;refine ai (M2.ue (List.getElem?_eq_getElem VY)) λx' mU T=>?_;rw[List.getElem?_eq_getElem hi]at mU;cases mU;refine dX (id T.obj) λsY pK ea e1 e2 e3 em el=>⟨r,⟨_,rfl,aB.of VD,rfl,.int i,[.ref A.ts[i].1],rfl,.ref A.ts[i].1,[],rfl,rfl,vr rfl ⟨.inl ⟨rfl,_,ae.of Bc⟩,⟨_,rfl,_,sY,pK,rfl,ea,em _ dk,_,_,_,_,_,_,rfl,T,jQ,λH3 lf k3 sW nf hf=>?_⟩⟩⟩⟩;have LA:aV uK H2 H3:=aV.KS k3 λb hb=>nomatch hb;refine dQ lf rfl ⟨_,ae.of hf⟩ ?_;have hfl:=NZ S.kd S.ck[i].es;refine eN (n:=(gH S.kd S.ck[i].es).length) (λj ys H4=>j<=(gH S.kd S.ck[i].es).length/\ah H3 H4/\Paired (jo H4) ys (((gH S.kd S.ck[i].es).take j).map λn=>(("carry" : Str),[(i:Int),n]))) (c8 (f7 w4)) (eT (aP _) (ah.refl _) .nil) ?_ ?_ ?_ ?_ ?_
   ·rintro j ys H4 ⟨_,_,e⟩;rw[r_ e,List.length_map,List.length_take];exact xl
   ·rintro j ys H4 hj ⟨_,s4,_⟩;exact eO _ (V.int (gH S.kd S.ck[i].es)[j]) (ae.of (s4 _ _ hf)) (by rw[List.getElem?_map,List.getElem?_eq_getElem hj];rfl)
   ·rintro ys H4 ⟨_,s4,_⟩;exact aA _ (ae.of (s4 _ _ hf)) (by rw[List.length_map];exact aw _)
   ·rintro j ys H4 hj ⟨_,s4,e⟩ v H5 ⟨eH,EU⟩;subst eH;have hv:=EU _ (ae.of (s4 _ _ hf));rw[List.getElem?_map,List.getElem?_eq_getElem hj]at hv;cases hv;refine aA _ rfl (vr rfl ⟨(sl (n:=3)),(λtp ht=>⟨hj,aE s4 ht,?_⟩)⟩);rw[List.take_add_one,List.getElem?_eq_getElem hj,List.map_append];exact kI (Paired.b9 e λ_ _ q=>q.keep λb xs e=>aE (ah.refl _) ht _ _ e) (aA tp rfl ao)
   ·rintro ys H4 ⟨_,s4,e⟩;rw[List.take_of_length_le (aw _)]at e;refine⟨by rw[r_ e,List.length_map];exact c8 (f7 li),λrl iB=>?_⟩;have s5:=aE (o:=.lst ys) s4 iB;have y6:=s5 _ _ (LA.ui Bc);have cl:=CF S.kd (S.ck.zipIdx.take i);rw[List.length_take]at cl;have hvl:=r_ wV;refine⟨lw,rl,vs,ys,rfl,rfl,y6,ao,?_,hi,(wB _ _ (gL _ rfl ?_ ?_ ao ?_))⟩
    ·rw[hvl,r_ e,List.length_map];exact c8 (f7 li)
    ·have kk:=LA.trans (aV.of s5);refine⟨λb o nb nt eb=>?_,λb eb=>(qJ.trans kk).t b ?_⟩
     ·have:b≠lw:=cG eb nw;rw[ag this];exact(qJ.trans kk).k b o nb nt eb
     ·by_cases z:b=lw
      ·rw[z,ao]at eb;cases eb
      ·rwa[ag z]at eb
    ·exact Qi y6 (oh sW s5)
    ·have et:S.ck.zipIdx.take (i+1)=S.ck.zipIdx.take i++[(S.ck[i],i)]:=by
      rw[List.take_add_one,List.getElem?_zipIdx,List.getElem?_eq_getElem VY];simp
     rw[et];unfold uo;rw[List.flatMap_append,List.flatMap_cons,List.flatMap_nil,List.append_nil];have Vj:∀b xs,upd H4 rl (.lst ys) b=a_ (.tup xs)->upd (upd H4 rl (.lst ys)) lw (.lst (vs++ys)) b=a_ (.tup xs):=λb xs e=>by rw[ag (ie e y6 (by intro z;cases z))];exact e
     exact tD (Paired.b9 e λ_ _ q=>q.keep λb xs e=>Vj b xs (aE (ah.refl _) iB _ _ e)) (Paired.b9 Tn λ_ _ q=>(q.keep LA.JZ).keep λb xs e=>Vj b xs (s5 _ _ e))
  ·rintro σ H1 ⟨_,c,y,vs,rfl,kp,pJ,hw,wV⟩;rw[List.take_of_length_le (by rw[List.length_zipIdx];lia)]at wV;exact vr rfl (q H1 lw vs kp pJ nw hw wV)
end
def KL(H H':Hp):Prop:=∀b o,(∀xs,o≠.lst xs)->H b=a_ o->H' b=a_ o
theorem KL.trans(a:KL H H1)(b:KL H1 H2):KL H H2:=λc o n e=>b c o n (a c o n e)
theorem KL.of(s:ah H H'):KL H H':=λb o _ e=>s b o e
theorem KL.upd{o:HO}(hx:H x=a_ (.lst xs)):KL H (upd H x o):=λb q n e=>by
 rw[ag λz=>?_]
 ·exact e
 ·rw[z,hx]at e;cases e;exact n _ rfl
theorem KL.lam(k:KL H H'){PT:e_}(h:cY PT pos q H):cY PT pos q H':=by
 refine ai h λps hP hc=>aA ps (k _ _ (λxs z=>by cases z) hP) ?_;rcases hc with e | ⟨c,e,hc⟩
 ·exact .inl e
 ·exact .inr (aA c e (k _ _ (λxs z=>by unfold yT at z;cases z) hc))
theorem KL.tup(k:KL H H'):∀b xs,H b=a_ (.tup xs)->H' b=a_ (.tup xs):=λb xs e=>k b _ (λys z=>by cases z) e
def Ir(S:Mc)(n:Nat)(num d:Int):Mc:={ S with bd:=S.bd.set n num,ov:=S.ov.set n (S.ov.getD n []++[d]) }
def iI(S:Mc)(c n:Nat):Mc:=match S.ck[c]? with
 | none=>S
 | some k=>match (cw k.es n).head? with
  | none=>S
  | some e=>Ir { S with ck:=S.ck.set c { k with es:=gR k.es n } } n e.num e.d
def Rr(S:Mc)(n:Nat):List V:=[.int (n:Nat),.int (S.bd.getD n 0),oV (S.ov.getD n []).getLast?]
theorem nD{α:Type}{l:List α}{n:Nat}{x d:α}(h:l[n]?=a_ x):l.getD n d=x:=by rw[List.getD_eq_getElem?_getD,h];rfl
section
variable{t:aZ}{C CT:e_}{u:mI}
def QO(t:aZ)(C CT:e_):Sp:=λvs H Q _=>∃m A S st n num d lab,vs=[.ref m,.ref st]/\aX t C CT H m A S/\jq lab m A/\H st=a_ (.tup [.int (n:Nat),.int num,.int d])/\n<12/\S.bd.length=12/\S.ov.length=12/\(∀o∈S.ov,o.length<=16000)/\
 ∀H',aX t C CT H' m A (Ir S n num d)->aV (cF m A) H H'->KL H H'->Q .aH H'
theorem QT:bf ["self","setting","name"] ["self","setting"] (aR Jy):=bz
theorem yo{n j:Nat}(h:j<n):lz n (j:Int)=a_ j:=by
 unfold lz
 first | (rw[if_pos om];simp;done) | (simp;exact w0)
theorem acg(F:aU K "come" "Machine.come" Jy f fd)(cM:eP K C):ax P w K mg base ay 1 f fd ["self","setting"] (QO t C CT):=by
 refine F.ok QT λaL A _ s H vs Q E hr h=>?_
 ·refine fj h λm A S st n aa=>iY aa λnum d lab aa M a8=>?_;subst aa;refine qe a8 λL dv hn hb ho aa=>oA aa λeW q=>?_;refine let R1:TS:=_;let R2:TS:=_;⟨_,ar (bp (i:=2) QT.nd rfl (aF rfl) (aJ cq (pv 1) aq)) (pR R2 (ar (Df (aJ cq (pv 1) aq) (IX (cc (pv 0) rfl) (pv 2) set_list)) (pR R1 (aG (dq (iK m_ n_ o_ lV (aJ cD (cc (pv 0) rfl) (pv 2)) (ab (aJ cq (pv 1) aq) af))))))),?_⟩
  refine bX (id M.obj) λdx fs hm G=>gj (j:=0) rfl dv rfl (gj (j:=1) rfl dv rfl (vF rfl hm cM.cl cM.cells G.cells (vr rfl (⟨A.ce,_,_,n,rfl,rfl,M.ce,(yo (by rw[List.length_map,hb];exact hn)),?_⟩))));have M1:=aeG M L n num;have k1:aV (cF m A) H (upd H A.ce (.lst ((S.bd.map V.int).set n (.int num)))):=aV.upd .ce;have l1:KL H (upd H A.ce (.lst ((S.bd.map V.int).set n (.int num)))):=KL.upd M.ce;generalize upd H A.ce (.lst ((S.bd.map V.int).set n (.int num)))=H1 at M1 k1 l1 ⊢;refine bX (id M1.obj) λvf qT jP G1=>?_;have kr:S.ov[n]?=a_ (S.ov[n]'wg):=List.getElem?_eq_getElem wg;refine ai (M1.over kr) λa ha nW=>aA _ rfl (dY m C vf qT (jy _ rfl jP cM.cl cM.jX G1.jX (vr rfl (rL (v:=.ref a) (ae.of M1.cm) (kZ ha) ⟨.inl ⟨rfl,_,ae.of nW⟩,(gj (j:=2) rfl ((l1.tup _ _ dv)) rfl ?_)⟩))));have m5:=eW _ (List.mem_of_getElem? kr);refine wB a _ (gL _ rfl rfl nW (by rw[List.length_map,eM];exact wb) ?_);have M2:=aeE M1 L kr ha d;refine q _ ?_ (k1.trans (aV.upd (.cs (List.mem_of_getElem? ha)))) (l1.trans (KL.upd nW));unfold Ir;rw[nD kr];exact M2
def Oh(t:aZ)(C CT:e_):Sp:=λvs H Q _=>∃m A S n,vs=[.ref m,.int (n:Nat)]/\aX t C CT H m A S/\n<12/\S.bd.length=12/\S.ov.length=12/\∀tp,H tp=b_->Q (.ref tp) (upd H tp (.tup (Rr S n)))
theorem Oo:bf ["self","name","comers"] zLc (aR Hn):=bz
theorem Yz(F:aU K "on_board" "Machine.on_board" Hn f fd)(cM:eP K C)(cW:mg "len" = b_):ax P w K mg base ay 1 f fd zLc (Oh t C CT):=by
 refine F.ok Oo λaL A _ s H vs Q E hr h=>?_
 ·obtain⟨m,A,S,n,aa,M,hn,hb,ho,q⟩:=h;subst aa;refine let R1:TS:=_;⟨_,ar (bp (i:=2) Oo.nd rfl (aF rfl) (aJ cD (cc (pv 0) rfl) (pv 1))) (pR R1 (aG (bg (iH (ab (pv 1) (ab (aJ cD (cc (pv 0) rfl) (pv 1)) (ab (Hs (bo cH (bw dP rfl cW q_ (ab (pv 2) af)) aq (a7 _)) kY (aJ cD (pv 2) (Du C4 aq))) af))))))),?_⟩
  refine bX (id M.obj) λdx fs hm G=>?_;have kr:S.ov[n]?=a_ (S.ov[n]'wg):=List.getElem?_eq_getElem wg;have Bi:S.bd[n]?=a_ (S.bd[n]'wg):=List.getElem?_eq_getElem wg;refine ai (M.over kr) λa ha nW=>?_
  have q':∀v,oV (S.ov[n]'wg).getLast?=v->∀tp,H tp=b_->Q (.ref tp) (upd H tp (.tup [.int (n:Nat),.int (S.bd[n]'wg),v])):=λv hv tp ht=>by
   have q:=q tp ht;unfold Rr at q;rw[nD kr,nD Bi,hv]at q;exact q
  generalize S.ov[n]'wg=o at kr nW q';refine vF rfl hm cM.cl cM.jX G.jX (vr rfl (rL (v:=.ref a) (ae.of M.cm) (kZ ha) (aA _ rfl (vF rfl hm cM.cl cM.cells G.cells (vr rfl (rL (ae.of M.ce) (kZ Bi) (vr rfl ⟨a,⟨_,rfl,.inl (ae.of nW),rfl,_,rfl,bQ (λz=>?_) λz=>?_⟩⟩)))))))
  ·have e0:o=[]:=by
    have z':=z;injection z' with z'
    rw[List.length_map]at z';exact List.length_eq_zero_iff.mp om
   subst e0;exact⟨(sl (n:=3)),q' .aH rfl⟩
  ·have eA:o≠[]:=λe=>z (by rw[e];rfl);obtain⟨o',d,rfl⟩:∃o' d,o=o'++[d]:=⟨o.dropLast,o.getLast eA,(List.dropLast_concat_getLast eA).symm⟩;refine vr rfl (aA _ rfl (rL (v:=.int d) (ae.of nW) (by rw[List.map_append];exact PB _ _) ⟨(sl (n:=3)),(q' (.int d) ?_)⟩));rw[List.getLast?_append];rfl
end
theorem gC.bounds(w:gC S){c:Nat}{k:Ck}(h:S.ck[c]?=a_ k):k.es.length<=15000:=cx (w.es k (List.mem_of_getElem? h)) w.ac
def A0(S:Mc):Prop:=∀o∈S.ov,o.length<=16000
theorem NP{n:Nat}(h:(cw es n).head?=a_ e):e.n=(n:Int):=by
 have hm:=List.mem_of_mem_head? h;unfold cw at hm;have:=(List.mem_filter.mp hm).2;simpa using this
def jG(S:Mc)(a:Act):Mc:={ S with ac:=S.ac++[a] }
def uq(S:Mc)(c n:Nat)(k:Ck)(g:Int):Mc:={ S with ck:=S.ck.set c { k with tn:=k.tn+1,es:=k.es++[⟨k.tn,n,g,S.ac.length⟩] } }
def setM(S:Mc)(c n r:Nat):Mc:=match S.ck[c]? with
 | none=>S
 | some k=>
  let g:=k.rg.getD r 0
  let S':=jG (uq S c n k g) ⟨"set",c,n,b_,a_ g,b_⟩
  if S.kd = "none" then iI S' c n else S'
def nJ(S:Mc)(c r:Nat)(v:Int):Mc:=match S.ck[c]? with
 | none=>S
 | some k=>{ S with ck:=S.ck.set c { k with rg:=k.rg.set r v } }
def cN(S:Mc)(k:Ck)(n:Nat):Int×Option Int:=match yf k.es n with
 | some e=>(e.num,a_ e.d)
 | none=>(S.bd.getD n 0,(S.ov.getD n []).getLast?)
def ql(S:Mc)(c r n:Nat):Mc:=match S.ck[c]? with
 | none=>S
 | some k=>nJ (jG S ⟨"look",c,n,a_ (cN S k n).1,b_,(cN S k n).2⟩) c r (cN S k n).1
section
variable{t:aZ}{C CT:e_}{u:mI}
def HP(t:aZ)(C CT PT:e_):Sp:=λvs H Q _=>∃m A S c k n lab,vs=[.ref m,.int (c:Nat),.int (n:Nat)]/\aX t C CT H m A S/\jq lab m A/\cY PT LP LQ H/\S.ck[c]?=a_ k/\(n:Int)∈gH S.kd k.es/\n<12/\S.bd.length=12/\S.ov.length=12/\A0 S/\
 ∀H',aX t C CT H' m A (iI S c n)->aV (cF m A) H H'->cY PT LP LQ H'->Q .aH H'
theorem abL:bf zLm zLm (aR IM):=bz
theorem aaC{f fT fC PT:e_}(F:aU K "carry" "Machine.carry" IM f fd)(cM:eP K C)(cT:ke K CT)
  (GT:ax P w K mg base ay 3 fT Ff zLc (QG CT PT)) (bT:Binds K Ff zLc []) (mT:Meth K CT "take" fT)
  (GC:ax P w K mg base ay 1 fC pL ["self","setting"] (QO t C CT)) (bC:Binds K pL ["self","setting"] []) (mC:Meth K C "come" fC):ax P w K mg base ay 4 f fd zLm (HP t C CT PT):=by
 refine F.ok abL λaL A _ s H vs Q E hr h=>?_
 ·refine fj h λm A S c k aa=>ic aa λn lab aa M L a8=>?_;subst aa;refine qe a8 λhL hk hf hn hb aa=>dg aa λho eW q=>?_;have fX:=hr.mono (show 1<=3 by decide);refine sj (aG (dq (iW (pv 0) cM.cl mC GC fX bC .nil aT (ab (iW (aJ cD (cc (pv 0) rfl) (pv 1)) cT.cl mT GT hr bT .nil aT (ab (pv 2) af)) af)))) (bX (id M.obj) λdx fs hm G=>ai (M.ue hk) λx hx T=>dX (id T.obj) λsY pK ea e1 e2 e3 em el=>vM rfl hm (G.ms _ dk) (vF rfl hm cM.cl cM.fQ G.fQ (vr rfl (rL (v:=.ref x.1) (ae.of M.lt) (zQ hx) (rM ea (em _ dk) (vr rfl (⟨x.1,n,_,_,_,_,(gL _ rfl T hL hf λH1 e st he T1 k1 pJ dv=>?_)⟩)))))));rw[fZ]at he;have en:=NP he;rw[en]at dv;have M1:=Ry M L hk hx k1 T1;refine⟨m,A,_,st,n,e.num,e.d,lab,rfl,M1,L,dv,hn,hb,(eT ho eW λH2 M2 k2 l2=>q H2 ?_ ((aV.KS k1 λb hb=>.ts (List.mem_of_getElem? hx) hb).trans k2) (l2.lam pJ))⟩;unfold iI;rw[hk];dsimp only;rw[he];exact M2
theorem acD(a:e_)(n r:Nat):jk (.ref a) "set" ([n,r].map λ(n:Nat)=>V.int (n:Int))=aQ "reg" (.int (r:Nat)) (aQ "name" (.int (n:Nat)) (aQ "parts" (.ref a) [])):=by kernel_rfl
theorem YU{n:Nat}(hn:n<12)(he:e.n=(n:Int)):(n:Int)∈jY (es++[e]):=by
 refine zV.mpr (dQ n hn rfl λz=>?_);rw[P8,if_pos he]at z;simp at z
def PX(t:aZ)(C CT PT:e_):Sp:=λvs H Q _=>∃m A S c k z dz a n r lab,vs=[.ref m,.int (c:Nat),.ref z]/\aX t C CT H m A S/\jq lab m A/\gC S/\A0 S/\cY PT LP LQ H/\S.ck[c]?=a_ k/\H z=a_ (.ins t.jn dz (jk (.ref a) "set" ([n,r].map λ(n:Nat)=>V.int (n:Int))))/\n<12/\r<4/\
 ∀H',aX t C CT H' m A (setM S c n r)->aV (cF m A) H H'->cY PT LP LQ H'->Q .aH H'
theorem P5:bf ["self","clerk","step","gave"] zLh (aR IJ):=bz
theorem aaA{f fA fC PT:e_}(F:aU K "do_set" "Machine.do_set" IJ f fd)(cM:eP K C)(cT:ke K CT)(cW:mg "len" = b_)(ST:tR K mg t)
  (GA:ax P w K mg base ay 1 fA xt zLl (RF CT)) (bA:Binds K xt zLl []) (mA:Meth K CT "add" fA)
  (GC:ax P w K mg base ay 4 fC pL zLm (HP t C CT PT)) (bC:Binds K pL zLm []) (mC:Meth K C "carry" fC):ax P w K mg base ay 5 f fd zLh (PX t C CT PT):=by
 refine F.ok P5 λaL A _ s H vs Q E hr h=>?_
 ·refine B8 h λm A S c k z dz a n r aa=>ym aa λlab aa M L W a8=>?_;subst aa;refine qe a8 λeW hL hk hz hn aa=>oA aa λwZ q=>?_;have fX:=hr.mono (show 1<=4 by decide);refine let R1:TS:=_;let R2:TS:=_;let R3:TS:=_;let R4:TS:=_;⟨_,ar (bp (i:=3) P5.nd rfl (aF rfl) (aJ cD (aJ cD (cc (pv 0) rfl) (pv 1)) (cc (pv 2) rfl))) (pR R4 (ar (dq (iW (aJ cD (cc (pv 0) rfl) (pv 1)) cT.cl mA GA fX bA .nil aT (ab (cc (pv 2) rfl) (ab (pv 3) (ab (bw dP rfl cW q_ (ab (cc (pv 0) rfl) af)) af))))) (pR R3 (ar (dq (iK m_ n_ o_ lV (cc (pv 0) rfl) (ab (iH (ab cJ (ab (pv 1) (ab (cc (pv 2) rfl) (ab kY (ab (pv 3) (ab kY af))))))) af))) (pR R2 (aG (bZ (bo cH (cc (pv 0) rfl) cJ (a7 _)) (pR R1 (aG (dq (iW (pv 0) cM.cl mC GC hr bC .nil aT (ab (pv 1) (ab (cc (pv 2) rfl) af)))))) cp))))))),?_⟩
  rw[acD]at hz;refine bX (id M.obj) λdx fs hm G=>ai (M.gg hk) λra mZ iB=>ai (M.ue hk) λx hx T=>dX (id T.obj) λsY pK ea e1 e2 e3 em el=>ai M.ac λws dN jM=>?_;have jN:=r_ jM;have ah7:=W.ac;have ahY:=W.bounds hk;have di:=W.rg k (List.mem_of_getElem? hk)
  have Ly:∀(nm:Str),(aQ "reg" (.int (r:Nat)) (aQ "name" (.int (n:Nat)) (aQ "parts" (.ref a) []))).lookup nm=if nm = "reg" then a_ (.int (r:Nat)) else if nm = "name" then a_ (.int (n:Nat)) else if nm = "parts" then a_ (.ref a) else none:=λnm=>by
   rw[eG,eG,eG];rfl
  have lr:(aQ "reg" (.int (r:Nat)) (aQ "name" (.int (n:Nat)) (aQ "parts" (.ref a) []))).lookup ("reg" : Str)=a_ (V.int (r:Nat)):=by rw[Ly,if_pos rfl]
  have ln:(aQ "reg" (.int (r:Nat)) (aQ "name" (.int (n:Nat)) (aQ "parts" (.ref a) []))).lookup ("name" : Str)=a_ (V.int (n:Nat)):=by rw[Ly,if_neg dk,if_pos rfl]
  have hg:k.rg[r]?=a_ (k.rg[r]'wg):=List.getElem?_eq_getElem wg;have eg:k.rg.getD r 0=k.rg[r]'wg:=nD hg;refine vF rfl hm cM.cl cM.gg G.gg (vr rfl (rL (v:=.ref ra) (ae.of M.rg) (kZ mZ) (vF rfl hz ST.rW ST.RP lr (rL (ae.of iB) (kZ hg) ?_))));generalize hgv:k.rg[r]'wg=g at eg;refine aA _ rfl (dY m C dx fs (jy _ rfl hm cM.cl cM.fQ G.fQ (vr rfl (rL (v:=.ref x.1) (ae.of M.lt) (zQ hx) (rM ea (em _ dk) (vF rfl hz ST.rW ST.Dw ln (vr rfl (vF rfl hm cM.cl cM.iN G.iN (dZ A.ac ws rfl (.inl (ae.of dN)) (⟨x.1,n,g,_,_,_,_,_,(jy _ rfl T li li w4 λH1 T1 k1=>?_)⟩))))))))));have kf:=fk.ofA k1 T1;have M1:=Ry M L hk hx kf T1;have ew:((ws.length:Nat):Int)=((S.ac.length:Nat):Int):=by rw[jN]
  rw[ew]at M1 T1
  have eF:H1 z=a_ (.ins t.jn dz (aQ "reg" (.int (r:Nat)) (aQ "name" (.int (n:Nat)) (aQ "parts" (.ref a) [])))):=k1 _ _ (λzb=>by
   rcases List.mem_cons.mp zb with y | y
   ·rw[y,ea]at hz;cases hz;rw[Ly,if_neg dk,if_neg dk,if_neg dk]at e1;cases e1
   ·rcases T.kinds z zb _ hz with ⟨_,_,_,_⟩ | ⟨_,y2⟩
    ·rcases List.mem_cons.mp y with y | y
     ·rw[y,T.qs]at hz;cases hz
     ·refine oE (List.getElem_of_mem y) λi aa=>oE aa λhi ez=>?_;obtain⟨nU,e',_⟩:=T.i7 i z (by rw[<-ez];exact List.getElem?_eq_getElem hi);rw[e']at hz;cases hz
    ·cases y2) hz
  have pJ:=zR hL k1 T.kinds;have A':aV (cF m A) H H1:=aV.KS kf λb hb=>.ts (List.mem_of_getElem? hx) hb;refine bX (id M1.obj) λvf qT jP G1=>ai M1.ac λEu D5 ahw=>aA _ rfl (dY m C vf qT (⟨_,rfl,jP,cM.cl,cM.iN,G1.iN,(.inl ⟨rfl,_,ae.of D5⟩),(aA _ rfl (vF rfl eF ST.rW ST.Dw ln (vr rfl ⟨(sl (n:=6)),(λtp ht=>?_)⟩)))⟩));have s2:=aE (o:=.tup [.str "set",.int (c:Nat),.int (n:Nat),.aH,.int g,.aH]) (ah.refl H1) ht;have ahx:=r_ ahw;refine jU A.ac Eu (.ref tp) rfl rfl (s2 _ _ D5) (by rw[ahx,eM];show S.ac.length<_;exact wb) ?_;have M2:=Rz (M1.same s2) L (s2 _ _ D5) (x:=.ref tp) (a:=⟨"set",c,n,b_,a_ g,b_⟩) ⟨tp,rfl,ao⟩;have qJ:aV (cF m A) H (upd (upd H1 tp (.tup [.str "set",.int (c:Nat),.int (n:Nat),.aH,.int g,.aH])) A.ac (.lst (Eu++[.ref tp]))):=A'.trans ((aV.of s2).trans (aV.upd .ac));have l2:KL H1 (upd (upd H1 tp (.tup [.str "set",.int (c:Nat),.int (n:Nat),.aH,.int g,.aH])) A.ac (.lst (Eu++[.ref tp]))):=(KL.of s2).trans (KL.upd (s2 _ _ D5));have jQ:=l2.lam pJ;have sL:=l2 _ _ (λxs z=>by cases z) eF;generalize upd (upd H1 tp (.tup [.str "set",.int (c:Nat),.int (n:Nat),.aH,.int g,.aH])) A.ac (.lst (Eu++[.ref tp]))=H2 at M2 qJ l2 jQ sL ⊢;refine bX (id M2.obj) λBL su jv G3=>?_
  have eS:setM S c n r=if S.kd = "none" then iI (jG (uq S c n k g) ⟨"set",c,n,b_,a_ g,b_⟩) c n else jG (uq S c n k g) ⟨"set",c,n,b_,a_ g,b_⟩:=by
   unfold setM;rw[hk];dsimp only;rw[eg]
  rw[eS]at q;refine aA _ rfl (dY m C BL su (jy _ rfl jv cM.cl cM.kind G3.kind ⟨rfl,⟨_,rfl,bQ (λm8=>?_) λm8=>?_⟩⟩))
  ·have AS:S.kd = "none":=J4 m8;rw[if_pos AS]at q;have ng:c<S.ck.length:=(List.getElem?_eq_some_iff.mp hk).1;refine vM rfl jv (G3.ms _ dk) (vr rfl (vF rfl sL ST.rW ST.Dw ln (⟨m,A,(jG (uq S c n k g) ⟨"set",c,n,b_,a_ g,b_⟩),c,({ k with tn:=k.tn+1,es:=k.es++[⟨k.tn,n,g,S.ac.length⟩] }),n,lab,rfl,M2,L,jQ,?_,?_,hn,(⟨W.bd,W.ov,eW,(λH3 M3 k3 sW=>q H3 M3 (qJ.trans k3) sW)⟩)⟩)))
   ·show (S.ck.set c _)[c]?=a_ _;rw[List.getElem?_set_self ng]
   ·show (n:Int)∈gH S.kd (k.es++[⟨k.tn,n,g,S.ac.length⟩]);unfold gH;rw[AS,if_neg dk];exact YU hn rfl
  ·have AS:¬S.kd = "none":=λe=>m8 (by rw[e]);rw[if_neg AS]at q;exact q H2 M2 qJ jQ
end
theorem gC.four(w:gC S):S.ck.length<=4:=by rw[w.len];exact w.good.le
theorem gC.part(w:gC S){c:Nat}{k:Ck}(h:S.ck[c]?=a_ k):∃p,S.ps[c]?=a_ p/\p.length<=120/\k.pl<=p.length/\∀s∈p,gf p.length s:=by
 refine oE (List.getElem?_eq_some_iff.mp h) λhc _=>?_;have hp:S.ps[c]?=a_ (S.ps[c]'(by rw[<-w.len];exact hc)):=List.getElem?_eq_getElem _;exact oA (w.good.part _ (List.mem_of_getElem? hp)) λg1 g2=>⟨_,hp,g1,(w.pl c k _ h hp),g2⟩
theorem Ij{c:Nat}{k:Ck}(h:S.ck[c]?=a_ k)(h':S.ps[c]?=a_ p):uh S c=AJ k p:=by unfold uh;rw[h,h']
theorem HF(S:Mc)(n:Nat):(uk S n).length<=n:=by
 unfold uk;rw[List.length_map];exact cx (List.length_filter_le _ _) (by rw[List.length_range];exact aw _)
theorem ZH(S:Mc)(n:Nat):uk S (n+1)=uk S n++(if uh S n=c_ then [(("do" : Str),[(n:Int)])] else []):=by
 unfold uk;rw[List.range_succ,List.filter_append,List.map_append]
 congr 1
 cases h:uh S n with
 | true=>simp[List.filter,h]
 | false=>simp[List.filter,h]
theorem afc:(zLd:List Str).Nodup:=dk
section
variable{t:aZ}{C CT:e_}{u:mI}
def HN(t:aZ)(C CT PT:e_):Sp:=λvs H Q _=>∃m A S,vs=[.ref m]/\aX t C CT H m A S/\gC S/\cY PT LP LQ H/\∀H' l vs,aV uK H H'->cY PT LP LQ H'->H l=b_->H' l=a_ (.lst vs)->Paired (jo H') vs (jA S)->Q (.ref l) H'
theorem Z6:bf zLf zLf (aR HX):=bz
theorem Zj{f fY fC PT:e_}(F:aU K "moves" "Machine.moves" HX f fd)(cM:eP K C)(cW:mg "len" = b_)(di:mg "range" = b_)
  (GY:ax P w K mg base ay 2 fY fdY zLd (PN t C CT)) (bY:Binds K fdY zLd []) (mY:Meth K C "may_do" fY)
  (GC:ax P w K mg base ay 3 fC pL zLf (Gq t C CT PT)) (bC:Binds K pL zLf []) (mC:Meth K C "carries" fC):ax P w K mg base ay 4 f fd zLf (HN t C CT PT):=by
 refine F.ok Z6 λaL A _ s H vs Q E hr h=>?_
 ·obtain⟨m,A,S,aa,M,W,hL,q⟩:=h;subst aa;have iC:=hr.mono (show 2<=3 by decide)
  refine⟨_,aG (bg (aW yk (g6 (N:=["self","clerk"]) (idx:=[0]) rfl (cZ.of (by kernel_rfl)) (gF (aw _)) (jh rfl di (ab (bw dP rfl cW q_ (ab (cc (pv 0) rfl) af)) af))
   (λ_ _ _ _=>bb (i:=1) afc rfl (aF rfl) (.inr rfl)) (λ_ _ _ _=>tJ (gd (iW (pv 0) cM.cl mY GY iC bY .nil aT (ab (pv 1) af)))) λ_ _ _ _=>iH (ab cJ (ab (pv 1) af)))
   (jT (pv 0) cM.cl mC GC hr bC .nil aT))),?_⟩
  refine bX (id M.obj) λdx fs hm G=>?_;have hlen:=r_ M.ts;have h4:=W.four;refine vF rfl hm cM.cl cM.fQ G.fQ ⟨A.lt,⟨_,rfl,.inl (ae.of M.lt),_,rfl,by rw[List.length_map];lia,by rw[List.length_map];lia,?_⟩⟩;have en:(((A.ts.map λx=>V.ref x.1).length:Int)).toNat=S.ck.length:=by rw[List.length_map];lia
  rw[en];refine eN (n:=S.ck.length) (λi ys H'=>i<=S.ck.length/\ah H H'/\Paired (jo H') ys (uk S i)) (c8 (f7 w4)) (eT (aP _) (ah.refl _) .nil) ?_ ?_ ?_ ?_ ?_
  ·rintro i ys H' ⟨_,_,e⟩;rw[r_ e];exact HF S i
  ·rintro i ys H' hi _;exact hi
  ·rintro ys H' _;exact aw _
  ·rintro i ys H1 hi ⟨_,s1,e⟩ x H2 ⟨eH,ex⟩;subst eH;subst ex;have hk:S.ck[i]?=a_ S.ck[i]:=List.getElem?_eq_getElem hi;refine cC (W.part hk) λp hp iQ LK hp3=>vM rfl (s1 _ _ hm) (G.ms _ dk) (vr rfl (⟨m,A,S,i,_,p,?_,(M.same s1),hk,hp,w4,LK,(λs hs=>⟨_,hp3 s hs⟩),(λH3 s3=>(aA _ rfl ?_))⟩))
   ·show [V.ref m,V.int (0+(i:Int))]=_;rw[lQ]
   rw[ZH,Ij hk hp];refine Kg (λhb=>?_) λhb=>?_
   ·refine vr rfl ⟨(sl (n:=2)),(λtp ht=>⟨hi,s1.trans (aE s3 ht),?_⟩)⟩;rw[hb,if_pos rfl];refine kI (Paired.b9 e λ_ _ q=>q.keep λb xs e=>aE s3 ht _ _ e) (aA tp rfl ?_);rw[ao];show a_ (HO.tup [.str "do",V.int (0+(i:Int))])=_;rw[lQ];rfl
   ·refine eT hi (s1.trans s3) ?_;rw[hb,if_neg dO,List.append_nil];exact Paired.b9 e λ_ _ q=>q.keep λb xs e=>s3 _ _ e
  ·rintro ys H1 ⟨_,s1,e⟩;have hd:=HF S S.ck.length;refine⟨by rw[r_ e];exact c8 (f7 li),λr dE=>?_⟩;have s2:=aE (o:=.lst ys) s1 dE;refine vM rfl (s2 _ _ hm) (G.ms _ dk) (jU m A S rfl (M.same s2) h4 (oh hL s2) λH3 lc us k3 sW nc hc gE=>?_);have cl:=CF S.kd S.ck.zipIdx;rw[List.length_zipIdx]at cl;have uS:=r_ gE
   have ai9:us.length<=48:=by
    rw[uS];unfold iU;lia
   refine kL r lc ys us rfl rfl (k3.ui ao) hc ?_ λl3 n3=>?_
   ·rw[r_ e];exact c8 (f7 li)
   have k4:aV uK H (upd H3 l3 (.lst (ys++us))):=((aV.of s2).trans k3).trans (aV.of (aE (ah.refl _) n3));have hn:=((aV.of s2).trans k3).t l3 n3;refine q _ l3 _ k4 (oh sW (aE (ah.refl _) n3)) hn ao ?_;unfold jA;have kt:∀b xs,H3 b=a_ (.tup xs)->upd H3 l3 (.lst (ys++us)) b=a_ (.tup xs):=λb xs e=>aE (ah.refl _) n3 _ _ e;exact tD (Paired.b9 gE λ_ _ q=>q.keep kt) (Paired.b9 e λ_ _ q=>(q.keep λb xs e=>k3.JZ _ _ (aE (ah.refl _) dE _ _ e)).keep kt)
end
end TL
namespace L2
open PySem.SeqAt
theorem HB{X:Cx}:SY X (λx y H Q=>∃p xs,∃i:Nat,∃v,x=.ref p/\y=.int (i:Nat)/\H p=a_ (.lst xs)/\xs[i]?=a_ v/\Q v H):=by
 intro p_ s σ H o i ov iv Q I r1 r2 h;refine nE h λp xs j z aa a8=>?_;clear h;subst aa;refine nK a8 λaa hq he q=>?_;clear a8;subst aa;cases r1;refine oE r2 λt aa=>?_;clear r2;subst aa;refine aO (I.list (ae.of hq)) λits r pl hz=>ai (r.get he) λw ew gU=>?_;have hl:=r.length;have hn:=Ar;have hj:j<xs.length:=(List.getElem?_eq_some_iff.mp he).1;exact wpAny_getItem_list pl.isList li li (by rw[fZ];simpa using ew) ⟨z,H,I,gU,q⟩
end L2
namespace TL
open PySem.SeqAt L2 L3 L4
theorem aaZ(a:e_)(r n:Nat):jk (.ref a) "skip" ([r,n].map λ(n:Nat)=>V.int (n:Int))=aQ "place" (.int (n:Nat)) (aQ "reg" (.int (r:Nat)) (aQ "parts" (.ref a) [])):=by kernel_rfl
theorem adK:(aQ x v (aQ y u (aQ "parts" (.ref a) []))).lookup x=a_ v:=by rw[eG,if_pos rfl]
theorem adM(h:y≠x):(aQ x v (aQ y u (aQ "parts" (.ref a) []))).lookup y=a_ u:=by rw[eG,if_neg h,eG,if_pos rfl]
def gy(s:Tl)(rg:List Int)(pl:Nat):Nat:=if s.1 = "skip"/\rg.getD (s.2.getD 0 0) 0=0 then s.2.getD 1 0 else pl+1
def dm(S:Mc)(c:Nat)(s:Tl):Mc:=
 if s.1 = "set" then setM S c (s.2.getD 0 0) (s.2.getD 1 0)
 else if s.1 = "look" then ql S c (s.2.getD 0 0) (s.2.getD 1 0)
 else S
theorem HE{c r n:Nat}{k:Ck}(hk:S.ck[c]?=a_ k):dm S c ("look",[r,n])=nJ (jG S ⟨"look",c,n,a_ (cN S k n).1,b_,(cN S k n).2⟩) c r (cN S k n).1:=by
 rw[show dm S c ("look",[r,n])=ql S c r n by kernel_rfl];unfold ql;rw[hk]
def qw(S:Mc)(c:Nat)(s:Tl):Mc:=match S.ck[c]? with
 | none=>S
 | some k=>{ S with ck:=S.ck.set c { k with pl:=gy s k.rg k.pl,ct:=k.ct+1 } }
def oX(S:Mc)(c:Nat):Mc:=match S.ck[c]?,S.ps[c]? with
 | some k,a_ p=>(match p[k.pl]? with
  | some s=>qw (dm S c s) c s
  | none=>S)
 | _,_=>S
section
variable{t:aZ}{C CT:e_}{H:Hp}{m:e_}{A:MA}{S:Mc}
theorem aX.abx(M:aX t C CT H m A S)(hz:H z=a_ (.ins cz dz (jk (.ref a) x ps))):¬cF m A z:=by
 intro hb;cases hb with
 | m=>
  refine bX M.obj λdx fs h G=>?_;rw[h]at hz;cases hz;have e:=G.fQ;rw[Al "trays" dk]at e;cases e
 | lt=>rw[M.lt]at hz;cases hz
 | pl=>rw[M.pl]at hz;cases hz
 | ct=>rw[M.ct]at hz;cases hz
 | rg=>rw[M.rg]at hz;cases hz
 | ce=>rw[M.ce]at hz;cases hz
 | ac=>obtain⟨vs,h,_⟩:=M.ac;rw[h]at hz;cases hz
 | cm=>rw[M.cm]at hz;cases hz
 | rs h=>
  refine ai (og M.rs h) λc _ q=>?_;rw[q]at hz;cases hz
 | cs h=>
  refine ai (og M.cs h) λc _ q=>?_;rw[q]at hz;cases hz
 | ts h h2=>
  refine ai (og M.ts h) λc _ T=>dX (id T.obj) λsY pK ea e1 e2 e3 em el=>?_;rcases List.mem_cons.mp h2 with y | y
  ·rw[y,ea]at hz;cases hz;rw[Al _ dk]at e1;cases e1
  ·rcases List.mem_cons.mp y with y | y
   ·rw[y,T.qs]at hz;cases hz
   ·refine oE (List.getElem_of_mem y) λi aa=>oE aa λhi ez=>?_;obtain⟨nU,e',_⟩:=T.i7 i z (by rw[<-ez];exact List.getElem?_eq_getElem hi);rw[e']at hz;cases hz
end
section
variable{P:l_}{w:k_}{K:u_}{mg:Str->Option f_}{base:j_}{t:aZ}{C CT:e_}{u:mI}
def Ni(t:aZ):Sp:=λvs H Q _=>∃z a dz s sz ra rg,∃pl:Nat,vs=[.ref z,.int (pl:Nat),.ref ra]/\H z=a_ (.ins (jE t s.1) dz (jk (.ref a) s.1 (s.2.map λ(n:Nat)=>V.int (n:Int))))/\gf sz s/\H ra=a_ (.lst (rg.map V.int))/\rg.length=4/\Q (.int (gy s rg pl:Nat)) H
theorem XT:bf zLp zLp (aR F2):=bz
theorem Pq(g:Int):decide (V.int g=V.int 0)=decide (g=0):=decide_eq_decide.mpr ⟨λz=>by injection z,λz=>by rw[z]⟩
theorem XI(F:aU K "place_behind" "place_behind" F2 f fd)(O:yz K mg t u):ax P w K mg base ay 1 f fd zLp (Ni t):=by
 refine F.ok XT λaL A _ s H vs Q E hr h=>?_
 ·refine fj h λz a dz s sz aa=>iY aa λra rg pl aa hz a8=>?_;subst aa;refine nK a8 λg mZ iB q=>?_;refine let R1:TS:=_;let R2:TS:=_;⟨_,ar (bZ (PW.pt (pw_and (gd (bw iV rfl O.st.bl.i8 je (ab (pv 0) (ab (gx (v:=.ref t.i3) rfl O.st.Jb rfl) af)))) (pw_and1 (bo cH (aJ cD (pv 2) (cc (pv 0) rfl)) aq (a7 _))))) (pR R1 (aG (bg (cc (pv 0) rfl)))) cp) (pR R2 (aG (bg (aW fJ (pv 1) aq)))),?_⟩
  refine ym (Dg O g hz) λD _ _ _ ty c6=>vr rfl (dY _ (.ref t.i3) _ (.ref t.i3) (gL _ rfl ty rfl c6.RK (tk (bQ (λhs=>?_) λhs=>?_))))
  ·cases g with
   | skip r p h1 h2 h3=>
    have hz:H z=a_ (.ins (jE t "skip") dz (jk (.ref a) "skip" ([r,p].map λ(n:Nat)=>V.int (n:Int)))):=hz;rw[Px,aaZ]at hz;have hg:rg[r]?=a_ (rg[r]'wg):=List.getElem?_eq_getElem wg;have eg:rg.getD r 0=rg[r]'wg:=nD hg;refine vr rfl (vF rfl hz O.st.tQ O.st.Ra (adM dk) (rL (ae.of mZ) (kZ hg) ⟨rfl,⟨_,rfl,bQ (λh0=>?_) λh0=>?_⟩⟩))
    ·have e:gy ("skip",[r,p]) rg pl=p:=by
      unfold gy;rw[if_pos ⟨rfl,by show rg.getD r 0=0;rw[eg];injection h0⟩];rfl
     rw[e]at q;exact vF rfl hz O.st.tQ O.st.Ja adK q
    ·have e:gy ("skip",[r,p]) rg pl=pl+1:=by
      unfold gy;rw[if_neg λh=>h0 (by have:=h.2;rw[<-show rg.getD r 0=rg[r]'wg from eg];show V.int (rg.getD r 0)=_;rw[show rg.getD r 0=0 from this])]
     rw[e]at q;exact aA _ rfl ⟨_,⟨_,rfl,rfl,q⟩⟩
   | set=>exact absurd (show ("set" : Str) = "skip" from hs) dk
   | look=>exact absurd (show ("look" : Str) = "skip" from hs) dk
  ·have e:gy s rg pl=pl+1:=by
    unfold gy;rw[if_neg λh=>hs h.1]
   rw[e]at q;exact aA _ rfl ⟨_,⟨_,rfl,rfl,q⟩⟩
end
end TL
namespace L2
theorem fg.SG{X:Cx}{ss:List Stmt}{t t':TS}(h:fg X ss t)(hi:∀D σ H,t' D σ H->t D σ H):fg X ss t':=λp_ s σ H D I q=>h p_ s σ H D I (hi D σ H q)
end L2
namespace TL
open PySem.SeqAt L2 L3 L4
variable{P:l_}{w:k_}{K:u_}{mg:Str->Option f_}{base:j_}
theorem Pn(a:e_)(r n:Nat):jk (.ref a) "look" ([r,n].map λ(n:Nat)=>V.int (n:Int))=aQ "name" (.int (n:Nat)) (aQ "reg" (.int (r:Nat)) (aQ "parts" (.ref a) [])):=by kernel_rfl
theorem Il(n r:Nat)(a:e_):(aQ "name" (.int (n:Nat)) (aQ "reg" (.int (r:Nat)) (aQ "parts" (.ref a) []))).lookup ("name" : Str)=a_ (V.int (n:Nat)):=by rw[eG,if_pos rfl]
theorem adL(n r:Nat)(a:e_):(aQ "name" (.int (n:Nat)) (aQ "reg" (.int (r:Nat)) (aQ "parts" (.ref a) []))).lookup ("reg" : Str)=a_ (V.int (r:Nat)):=by rw[eG,if_neg dk,eG,if_pos rfl]
section
variable{t:aZ}{C CT:e_}{u:mI}
def OZ(t:aZ)(C CT:e_):Sp:=λvs H Q _=>∃m A S c k z dz a r n lab,vs=[.ref m,.int (c:Nat),.ref z]/\aX t C CT H m A S/\jq lab m A/\gC S/\S.ck[c]?=a_ k/\H z=a_ (.ins t.jB dz (jk (.ref a) "look" ([r,n].map λ(n:Nat)=>V.int (n:Int))))/\r<4/\n<12/\
 ∀H',aX t C CT H' m A (ql S c r n)->aV (cF m A) H H'->KL H H'->Q .aH H'
theorem Hh:bf ["self","clerk","step","setting"] zLh (aR HZ):=bz
theorem Zl(F:aU K "do_look" "Machine.do_look" HZ f fd)(cM:eP K C)(cT:ke K CT)(ST:tR K mg t)
  (GL:ax P w K mg base ay 1 fL BE zLc (OW CT)) (bL:Binds K BE zLc []) (mL:Meth K CT "latest" fL)
  (GB:ax P w K mg base ay 1 fB mz zLc (Oh t C CT)) (bB:Binds K mz zLc []) (mB:Meth K C "on_board" fB):ax P w K mg base ay 2 f fd zLh (OZ t C CT):=by
 refine F.ok Hh λaL A _ s H vs Q E hr h=>?_
 ·refine B8 h λm A S c k z dz a r n aa=>ym aa λlab aa M L W a8=>?_;subst aa;obtain⟨hk,hz,wZ,hn,q⟩:=a8;refine let R1:TS:=_;let R2:TS:=_;let R3:TS:=_;let R4:TS:=_;⟨_,ar (bp (i:=3) Hh.nd rfl (aF rfl) (iW (aJ cD (cc (pv 0) rfl) (pv 1)) cT.cl mL GL hr bL .nil aT (ab (cc (pv 2) rfl) af))) (pR R4 (ar (bZ (bo IZ (pv 3) kY (a7 _)) (pR R1 (aG (bp (i:=3) Hh.nd rfl (aF rfl) (iW (pv 0) cM.cl mB GB hr bB .nil aT (ab (cc (pv 2) rfl) af))))) cp) (fg.SG (t':=λD σ H1=>∃st x,σ=[a_ (.ref m),a_ (.int (c:Nat)),a_ (.ref z),a_ (.ref st)]/\H1 st=a_ (.tup [x,.int (cN S k n).1,oV (cN S k n).2])/\ah H H1/\∀σ' H',aX t C CT H' m A (ql S c r n)->aV (cF m A) H H'->KL H H'->D.nx σ' H') (pR R3 (ar (dq (iK m_ n_ o_ lV (cc (pv 0) rfl) (ab (iH (ab cJ (ab (pv 1) (ab (cc (pv 2) rfl) (ab (aJ cq (pv 3) aq) (ab kY (ab (aJ cq (pv 3) aq) af))))))) af))) (pR R2 (aG (Df (aJ cq (pv 3) aq) (IX (aJ cD (cc (pv 0) rfl) (pv 1)) (cc (pv 2) rfl) set_list)))))) ?tl))),?_⟩
  case tl=>
   rintro D σ H1 ⟨st,x,rfl,dv,s1,q⟩;rw[Pn]at hz;have M1:=M.same s1;refine bX (id M1.obj) λdx fs hm G=>ai M1.ac λws dN jM=>?_;have eF:=s1 _ _ hz;refine vF rfl hm cM.cl cM.iN G.iN ⟨.inl ⟨rfl,_,ae.of dN⟩,aA _ rfl (vF rfl eF ST.rP ST.Dj (Il n r a) (gj (j:=1) rfl dv rfl (gj (j:=2) rfl dv rfl ⟨(sl (n:=6)),(λtp ht=>?_)⟩)))⟩;have s2:=aE (o:=.tup [.str "look",.int (c:Nat),.int (n:Nat),.int (cN S k n).1,.aH,oV (cN S k n).2]) (ah.refl H1) ht;have jN:=r_ jM;have ah7:=W.ac;refine jU A.ac ws (.ref tp) rfl rfl (s2 _ _ dN) (by rw[jN,eM];exact wb) ?_;have M2:=Rz (M1.same s2) L (s2 _ _ dN) (x:=.ref tp) (a:=⟨"look",c,n,a_ (cN S k n).1,b_,(cN S k n).2⟩) ⟨tp,rfl,ao⟩;have qJ:aV (cF m A) H (upd (upd H1 tp (.tup [.str "look",.int (c:Nat),.int (n:Nat),.int (cN S k n).1,.aH,oV (cN S k n).2])) A.ac (.lst (ws++[.ref tp]))):=(aV.of s1).trans ((aV.of s2).trans (aV.upd .ac));have l2:KL H1 (upd (upd H1 tp (.tup [.str "look",.int (c:Nat),.int (n:Nat),.int (cN S k n).1,.aH,oV (cN S k n).2])) A.ac (.lst (ws++[.ref tp]))):=(KL.of s2).trans (KL.upd (s2 _ _ dN));have sL:=l2 _ _ (λxs z=>by cases z) eF;have Tp:=l2.tup _ _ dv;generalize upd (upd H1 tp (.tup [.str "look",.int (c:Nat),.int (n:Nat),.int (cN S k n).1,.aH,oV (cN S k n).2])) A.ac (.lst (ws++[.ref tp]))=H2 at M2 qJ l2 sL Tp ⊢;refine bX (id M2.obj) λBL su jv G3=>ai (M2.gg (k:=k) hk) λra mZ iB=>?_;have di:=W.rg k (List.mem_of_getElem? hk);refine gj (j:=1) rfl Tp rfl (vF rfl jv cM.cl cM.gg G3.gg (vr rfl (rL (v:=.ref ra) (ae.of M2.rg) (kZ mZ) (vF rfl sL ST.rP ST.Rb (adL n r a) (⟨ra,_,_,r,rfl,rfl,iB,(yo (by rw[List.length_map,di];exact wZ)),?_⟩)))));have M3:=aeC M2 L (k:=k) hk mZ r (cN S k n).1;refine q _ _ ?_ (qJ.trans (aV.upd (.rs (List.mem_of_getElem? mZ)))) ((KL.of s1).trans (l2.trans (KL.upd iB)))
   have e:ql S c r n={ (jG S ⟨"look",c,n,a_ (cN S k n).1,b_,(cN S k n).2⟩)with ck:=S.ck.set c { k with rg:=k.rg.set r (cN S k n).1 } }:=by
    unfold ql;rw[hk];dsimp only;unfold nJ;rw[show (jG S ⟨"look",c,n,a_ (cN S k n).1,b_,(cN S k n).2⟩).ck[c]?=a_ k from hk];rfl
   rw[e];exact M3
  refine bX (id M.obj) λdx fs hm G=>ai (M.ue hk) λx hx T=>dX (id T.obj) λsY pK ea e1 e2 e3 em el=>?_;have ahY:=W.bounds hk;have EN:=hz;rw[Pn]at EN;refine vF rfl hm cM.cl cM.fQ G.fQ (vr rfl (rL (v:=.ref x.1) (ae.of M.lt) (zQ hx) (rM ea (em _ dk) (vF rfl EN ST.rP ST.Dj (Il n r a) (⟨x.1,n,_,_,_,_,(⟨_,rfl,T,li,li,w4,(λkr=>?_),(λe st he dv=>?_)⟩)⟩)))))
  ·rw[fZ]at kr;refine aA _ rfl ⟨rfl,⟨_,rfl,bQ (λ_=>?_) λy=>absurd rfl y⟩⟩;refine vM rfl hm (G.ms _ dk) (vF rfl EN ST.rP ST.Dj (Il n r a) (kL m A S n rfl M hn W.bd W.ov λtp ht=>?_));have es:cN S k n=(S.bd.getD n 0,(S.ov.getD n []).getLast?):=by unfold cN;rw[kr]
   refine⟨tp,(.int (n:Nat)),rfl,?_,(aE (ah.refl H) ht),(λσ' H' h1 h2 h3=>q H' h1 h2 h3)⟩;rw[ao,es];rfl
  ·rw[fZ]at he;refine aA _ rfl ⟨rfl,⟨_,rfl,bQ (λy=>by cases y) λ_=>?_⟩⟩;have es:cN S k n=(e.num,a_ e.d):=by unfold cN;rw[he]
   exact⟨st,(.int e.n),rfl,(by rw[es];exact dv),(ah.refl H),(λσ' H' h1 h2 h3=>q H' h1 h2 h3)⟩
end
section
variable{S:Mc}{c:Nat}{k:Ck}
structure S8(S S':Mc)(c:Nat)(k k':Ck):Prop where
 at':S'.ck[c]?=a_ k'
 pl:k'.pl=k.pl
 ct:k'.ct=k.ct
 rg:k'.rg.length=k.rg.length
theorem abS{r:Nat}{v:Int}(hk:S.ck[c]?=a_ k):S8 S (nJ S c r v) c k { k with rg:=k.rg.set r v }:=by
 have e:nJ S c r v={ S with ck:=S.ck.set c { k with rg:=k.rg.set r v } }:=by unfold nJ;rw[hk]
 rw[e];exact⟨List.getElem?_set_self (List.getElem?_eq_some_iff.mp hk).1,rfl,rfl,List.length_set⟩
theorem ad7{sz:Nat}(g:gf sz s)(hk:S.ck[c]?=a_ k):∃k',S8 S (dm S c s) c k k':=by
 have hc:c<S.ck.length:=(List.getElem?_eq_some_iff.mp hk).1;cases g with
 | set n r h1 h2=>
  have e:dm S c ("set",[n,r])=setM S c n r:=by kernel_rfl
  rw[e];unfold setM;rw[hk];dsimp only
  split
  ·unfold iI;rw[show (jG (uq S c n k (k.rg.getD r 0)) ⟨"set",c,n,b_,a_ (k.rg.getD r 0),b_⟩).ck[c]?=a_ { k with tn:=k.tn+1,es:=k.es++[⟨k.tn,n,k.rg.getD r 0,S.ac.length⟩] } from List.getElem?_set_self hc];dsimp only
   split
   ·exact⟨_,⟨List.getElem?_set_self hc,rfl,rfl,rfl⟩⟩
   ·exact⟨{ k with tn:=k.tn+1,es:=gR (k.es++[⟨k.tn,n,k.rg.getD r 0,S.ac.length⟩]) n },⟨List.getElem?_set_self (by show c<(S.ck.set c _).length;rw[List.length_set];exact hc),rfl,rfl,rfl⟩⟩
  ·exact⟨_,⟨List.getElem?_set_self hc,rfl,rfl,rfl⟩⟩
 | look r n h1 h2=>
  rw[HE hk];have r:=abS (S:=jG S ⟨"look",c,n,a_ (cN S k n).1,b_,(cN S k n).2⟩) (r:=r) (v:=(cN S k n).1) hk;exact⟨_,⟨r.at',r.pl,r.ct,r.rg⟩⟩
 | skip r q h1 h2 h3=>
  have e:dm S c ("skip",[r,q])=S:=by kernel_rfl
  rw[e];exact⟨k,⟨hk,rfl,rfl,rfl⟩⟩
end
section
variable{t:aZ}{C CT:e_}{u:mI}
def OY(t:aZ)(C CT PT:e_):Sp:=λvs H Q _=>∃m A S c k p s sz lab,vs=[.ref m,.int (c:Nat)]/\aX t C CT H m A S/\jq lab m A/\gC S/\A0 S/\cY PT LP LQ H/\S.ck[c]?=a_ k/\S.ps[c]?=a_ p/\p[k.pl]?=a_ s/\gf sz s/\
 ∀H',aX t C CT H' m A (oX S c)->aV (cF m A) H H'->cY PT LP LQ H'->Q .aH H'
theorem Hg:bf ["self","clerk","step","regs"] zLd (aR HY):=bz
theorem ada{c r:Nat}{k:Ck}{v:Int}(hk:S.ck[c]?=a_ k):nJ S c r v={ S with ck:=S.ck.set c { k with rg:=k.rg.set r v } }:=by unfold nJ;rw[hk]
theorem Zk{f fP fS fL PT:e_}(F:aU K "do_step" "Machine.do_step" HY f fd)(cM:eP K C)(O:yz K mg t u)
  (GP:ax P w K mg base ay 1 fP BC zLp (Ni t)) (kP:x_ K (.ref fP)=c_) (bP:Binds K BC zLp []) (mP:mg "place_behind" = a_ (.ref fP))
  (GS:ax P w K mg base ay 5 fS kj zLh (PX t C CT PT)) (bS:Binds K kj zLh []) (mS:Meth K C "do_set" fS)
  (GL:ax P w K mg base ay 2 fL BE zLh (OZ t C CT)) (bL:Binds K BE zLh []) (mL:Meth K C "do_look" fL):ax P w K mg base ay 6 f fd zLd (OY t C CT PT):=by
 refine F.ok Hg λaL A _ s H vs Q E hr h=>?_
 ·refine fj h λm A S c k aa=>nE aa λp st sz lab aa a8=>?_;subst aa;refine qe a8 λM L W eW hL aa=>JC aa λhk hp hs g q=>?_;have fX:=hr.mono (show 1<=5 by decide);have iC:=hr.mono (show 2<=5 by decide);refine ai (M.gg hk) λra mZ iB=>?_;have di:=W.rg k (List.mem_of_getElem? hk);refine iY (M.part hp) λvs b us h1 h2 aa=>oA aa λh3 h4=>ai (pS h4 hs) λv hv aa=>Aw aa λz a dz aa hz=>?_;subst aa;have ahH:=M.abx hz
  have hdo:oX S c=qw (dm S c st) c st:=by
   unfold oX;rw[hk,hp];dsimp only;rw[hs]
  refine let R3:TS:=_;let R4:TS:=_;let R6:TS:=_;let R7:TS:=_;let R8:TS:=_;let R9:TS:=_;let fu:TS:=_;let nY:TS:=_;let xx:TS:=_;let BN:TS:=_;⟨_,ar (bp (i:=2) Hg.nd rfl (aF rfl) (aJ cq (aJ cq (cc (pv 0) rfl) (pv 1)) (aJ cD (cc (pv 0) rfl) (pv 1)))) (pR BN (ar (bp (i:=3) Hg.nd rfl (aF rfl) (aJ cD (cc (pv 0) rfl) (pv 1))) (pR xx (ar (bZ (gd (bw iV rfl O.st.bl.i8 je (ab (pv 2) (ab (gx (v:=.ref t.AK) rfl O.st.afk rfl) af))))
     gV
     (pR R9 (aG (bZ (gd (bw iV rfl O.st.bl.i8 je (ab (pv 2) (ab (gx (v:=.ref t.AL) rfl O.st.afl rfl) af))))
      gV
      (pR R8 (aG (bZ (gd (bw iV rfl O.st.bl.i8 je (ab (pv 2) (ab (gx (v:=.ref t.jn) rfl O.st.RS rfl) af)))) (pR R3 (aG (dq (iW (pv 0) cM.cl mS GS hr bS .nil aT (ab (pv 1) (ab (pv 2) af)))))) (pR R7 (aG (bZ (gd (bw iV rfl O.st.bl.i8 je (ab (pv 2) (ab (gx (v:=.ref t.jB) rfl O.st.Rf rfl) af)))) (pR R4 (aG (dq (iW (pv 0) cM.cl mL GL iC bL .nil aT (ab (pv 1) (ab (pv 2) af)))))) (pR R6 (aG (bZ (gd (bw iV rfl O.st.bl.i8 je (ab (pv 2) (ab (gx (v:=.ref t.AB) rfl O.st.adF rfl) af))))
         gV
         cp)))))))))))))
   (fg.SG (t':=λD σ H1=>σ=[a_ (.ref m),a_ (.int (c:Nat)),a_ (.ref z),a_ (.ref ra)]/\aX t C CT H1 m A (dm S c st)/\aV (cF m A) H H1/\cY PT LP LQ H1/\∀σ' H',aX t C CT H' m A (oX S c)->aV (cF m A) H H'->cY PT LP LQ H'->D.nx σ' H') (pR nY (ar (Df (cU GP fX rfl mP kP bP .nil aT (ab (pv 2) (ab (aJ cD (cc (pv 0) rfl) (pv 1)) (ab (pv 3) af)))) (IX (cc (pv 0) rfl) (pv 1) set_list)) (pR fu (aG (Ig (cc (pv 0) rfl) (pv 1) HB aq Rj set_list))))) ?tl))))),?_⟩
  case tl=>
   rintro D σ H1 ⟨rfl,M1,k1,pJ,q⟩;refine oE (ad7 g hk) λk' ef=>bX (id M1.obj) λdx fs hm G=>?_;have eF:=k1.k z _ ahH (λps y=>by cases y) hz;refine ai (M1.gg ef.at') λUN Tq ahE=>?_;have era:UN=ra:=by rw[mZ]at Tq;exact(cu Tq).symm
   subst era;have hc:c<(dm S c st).ck.length:=(List.getElem?_eq_some_iff.mp ef.at').1;refine vr rfl (vF rfl hm cM.cl cM.places G.places (vr rfl (rL (ae.of M1.pl) (kZ (f:=λk:Ck=>V.int (k.pl:Nat)) ef.at') (vr rfl (⟨z,a,dz,st,sz,UN,k'.rg,k'.pl,rfl,eF,g,ahE,(by rw[ef.rg];exact di),(vF rfl hm cM.cl cM.places G.places (vr rfl (⟨A.pl,_,_,c,rfl,rfl,M1.pl,(yo (by rw[List.length_map];exact hc)),?_⟩)))⟩)))));have M2:=aeD M1 L ef.at' (gy st k'.rg k'.pl);have k2:aV (cF m A) H1 (upd H1 A.pl (.lst (((dm S c st).ck.map λk=>V.int (k.pl:Nat)).set c (.int (gy st k'.rg k'.pl:Nat))))):=aV.upd .pl;have l2:KL H1 (upd H1 A.pl (.lst (((dm S c st).ck.map λk=>V.int (k.pl:Nat)).set c (.int (gy st k'.rg k'.pl:Nat))))):=KL.upd M1.pl;generalize upd H1 A.pl (.lst (((dm S c st).ck.map λk=>V.int (k.pl:Nat)).set c (.int (gy st k'.rg k'.pl:Nat))))=H2 at M2 k2 l2 ⊢;refine bX (id M2.obj) λBL su jv G3=>?_;have e2:((dm S c st).ck.set c { k' with pl:=gy st k'.rg k'.pl })[c]?=a_ { k' with pl:=gy st k'.rg k'.pl }:=List.getElem?_set_self hc;refine aA _ rfl (dY m C BL su (jy _ rfl jv cM.cl cM.counts G3.counts (vr rfl (⟨A.ct,_,c,(.int (k'.ct:Nat)),rfl,rfl,M2.ct,(by rw[List.getElem?_map,e2];rfl),⟨_,_,rfl,rfl,A.ct,_,_,c,rfl,rfl,M2.ct,yo (by rw[List.length_map,List.length_set];exact hc),?_⟩⟩))));have M3:=aeF M2 L e2 (k'.ct+1);refine q _ _ ?_ ((k1.trans k2).trans (aV.upd .ct)) ((l2.trans (KL.upd M2.ct)).lam pJ);rw[hdo]
   have e:qw (dm S c st) c st={ (dm S c st)with ck:=((dm S c st).ck.set c { k' with pl:=gy st k'.rg k'.pl }).set c { k' with pl:=gy st k'.rg k'.pl,ct:=k'.ct+1 } }:=by
    unfold qw;rw[ef.at',List.set_set]
   rw[e];exact M3
  refine bX (id M.obj) λdx fs hm G=>vF rfl hm cM.cl cM.steps G.steps (vr rfl (⟨A.st,_,_,(.ref b),rfl,rfl,(aB.of h1),(cX h2),(vF rfl hm cM.cl cM.places G.places (vr rfl (rL (ae.of M.pl) (kZ (f:=λk:Ck=>V.int (k.pl:Nat)) hk) (⟨b,_,_,(.ref z),rfl,rfl,(aB.of h3),(cX hv),(aA _ rfl (dY m C dx fs (jy _ rfl hm cM.cl cM.gg G.gg (vr rfl (rL (v:=.ref ra) (ae.of M.rg) (kZ mZ) (ym (Dg O g hz) λD _ _ _ ty c6=>vr rfl (dY _ (.ref t.AK) _ (.ref t.AK) (gL _ rfl ty rfl c6.agZ (tk (dJ (vr rfl (dY _ (.ref t.AL) _ (.ref t.AL) (gL _ rfl ty rfl c6.ag1 (tk (dJ (vr rfl (dY _ (.ref t.jn) _ (.ref t.jn) (gL _ rfl ty rfl c6.agY (tk (bQ (λh=>?_) λn3=>?_))))))))))))))))))))⟩))))⟩))
  ·cases g with
   | set n r g1 g2=>
    have hz:H z=a_ (.ins (jE t "set") dz (jk (.ref a) "set" ([n,r].map λ(n:Nat)=>V.int (n:Int)))):=hz;rw[Qs]at hz;refine vM rfl hm (G.ms _ dk) (vr rfl (vr rfl ⟨m,⟨A,S,c,k,z,dz,a,n,r,lab,rfl,M,L,W,eW,hL,hk,hz,g1,g2,λH1 M1 k1 pJ=>⟨rfl,?_,k1,pJ,(λσ' H' h1 h2 h3=>q H' h1 h2 h3)⟩⟩⟩));have e:dm S c ("set",[n,r])=setM S c n r:=by kernel_rfl
    rw[e];exact M1
   | look=>exact absurd (show ("look" : Str) = "set" from h) dk
   | skip=>exact absurd (show ("skip" : Str) = "set" from h) dk
  refine vr rfl (dY _ (.ref t.jB) _ (.ref t.jB) (gL _ rfl ty rfl c6.ae' (tk (bQ (λh=>?_) λn4=>?_))))
  ·cases g with
   | look r n g1 g2=>
    have hz:H z=a_ (.ins (jE t "look") dz (jk (.ref a) "look" ([r,n].map λ(n:Nat)=>V.int (n:Int)))):=hz;rw[Py]at hz;refine vM rfl hm (G.ms _ dk) (vr rfl (vr rfl ⟨m,⟨A,S,c,k,z,dz,a,r,n,lab,rfl,M,L,W,hk,hz,g1,g2,λH1 M1 k1 l1=>⟨rfl,?_,k1,(l1.lam hL),(λσ' H' h1 h2 h3=>q H' h1 h2 h3)⟩⟩⟩));have e:dm S c ("look",[r,n])=ql S c r n:=by kernel_rfl
    rw[e];exact M1
   | set=>exact absurd (show ("set" : Str) = "look" from h) dk
   | skip=>exact absurd (show ("skip" : Str) = "look" from h) dk
  refine vr rfl (dY _ (.ref t.AB) _ (.ref t.AB) (gL _ rfl ty rfl c6.ae9 (tk (dJ ?_))))
  have e:dm S c st=S:=by
   unfold dm;rw[if_neg n3,if_neg n4]
  exact⟨rfl,(by rw[e];exact M),(aV.refl H),hL,(λσ' H' h1 h2 h3=>q H' h1 h2 h3)⟩
end
def sk(mv:Mv):PyData:=.tuple (.str mv.1::mv.2.map oq)
theorem Po:∀l m:List Int,zM (l.map oq) (m.map oq)=decide (l=m)
 | [],[]=>by simp[zM]
 | [],_::_=>by simp[zM]
 | _::_,[]=>by simp[zM]
 | a::l,b::m=>by
  rw[List.map_cons,List.map_cons];simp only[zM,rA];rw[Po l m]
  by_cases h1:a=b
  ·subst h1
   by_cases h2:l=m
   ·subst h2;simp
   ·simp[h2]
  ·simp[h1]
theorem ad2(a b:Mv):rA (sk a) (sk b)=decide (a=b):=by
 obtain⟨x,is⟩:=a;obtain⟨y,js⟩:=b;unfold sk;simp only[rA,zM];rw[Po]
 by_cases h1:x=y
 ·subst h1
  by_cases h2:is=js
  ·subst h2;simp
  ·simp[h2]
 ·simp[h1]
theorem aeg(l:List Mv)(b:Mv):(l.map sk).any (λd=>rA d (sk b))=decide (b∈l):=by
 induction l with
 | nil=>simp
 | cons a l ih=>
  rw[List.map_cons,List.any_cons,ih,ad2]
  by_cases h:a=b
  ·subst h;simp
  ·have h':¬b=a:=λz=>h z.symm;simp[h,h']
theorem Oy(h:F8 mv.1=c_):shaped (sk mv)=true:=by
 unfold sk shaped;rw[nj];refine⟨?_,decide_eq_true ?_⟩
 ·simp only[zI,zE];rw[h,Bool.true_and];exact Gi λa _=>rfl
 ·have h:=GG (f:=oq) (k:=1) (l:=mv.2) (λa _=>by simp[F9]);simp only[F9,FH];lia
theorem vq{K:u_}:∀is:List Int,kg K H (is.map V.int) (is.map oq)
 | []=>.nil
 | i::is=>.cons (.int i) (vq is)
theorem Rc{K:u_}(h:H p=a_ (.tup (yP mv))):i6 K H (.ref p) (sk mv):=.tup (aB.of h) (.cons (.str mv.1) (vq mv.2))
section
variable{t:aZ}{C CT:e_}{u:mI}
def QL:Sp:=λvs H Q _=>∃p mv,vs=[.ref p]/\H p=a_ (.tup (yP mv))/\mv.2.length<=1000/\∀H',ah H H'->Q (.bl c_) H'
theorem ac6:bf ["move"] ["move"] (aR Ju):=bz
theorem aaG:(["part"]:List Str).Nodup:=dk
theorem acd(F:aU K "has_form_of_move" "has_form_of_move" Ju f fd)(T:tR K mg t):ax P w K mg base ay 2 f fd ["move"] QL:=by
 have GW:ax P w K mg base ay 1 t.fW t.nR ["thing"] CL:=Hv T.KW T.bl.i8 T.bl.int T.bl.bool;refine F.ok ac6 λaL A _ s H vs Q E hr h=>?_
 ·obtain⟨a,mv,aa,ha,hl,k⟩:=h;subst aa;have B:=T.bl
  refine let R1:TS:=_;⟨_,ar (bZ (PW.pt (pw_or (jW (gd (bw iV rfl B.i8 je (ab (pv 0) (ab (oB (v:=.ty "tuple") rfl B.tuple pX rfl) af))))) (pw_or (bo cH (bw dP rfl B.len q_ (ab (pv 0) af)) aq (a7 _)) (pw_or1 (jW (gd (bw iV rfl B.i8 je (ab (aJ cq (pv 0) aq) (ab (oB (v:=.ty "str") rfl B.str boot_str rfl) af))))))))) (aG (bg nG)) cp) (pR R1 (aG (bg (bw (CG rfl) rfl B.all boot_all (ab (g6 (N:=["part"]) (idx:=[]) rfl (cZ.of (by kernel_rfl)) (gF (aP _))
    (rJ (x8 QP (pv 0) (vC aq) Aj))
    (λ_ _ _ _=>bb (i:=0) aaG rfl (aF rfl) (.inr rfl))
    (λ_ _ _ _=>gZ)
    λ_ _ _ _=>cU GW hr rfl T.mW T.KW.kp T.bW .nil aT (ab (pv 0) af)) af))))),?_⟩
  have hT:=xN ha;have hS:tyName H (.str mv.1)=a_ "str":=rfl;refine vr rfl (dY _ _ _ _ (gL _ rfl (oS hT) rfl (oO hT qc) (aA _ rfl (dJ (vr rfl (dZ a _ rfl (.inr (aB.of ha)) ⟨rfl,_,rfl,bQ (λe=>by cases e) λ_=>gj (v:=.str mv.1) (j:=0) rfl ha rfl (dY _ _ _ _ (gL _ rfl (oS hS) rfl (oO hS qc) (aA _ rfl (JG (λz=>absurd z qc) λ_=>aA _ rfl (aA 1 rfl ⟨a,_,rfl,aB.of ha,λz=>absurd ((J9 (.str mv.1) _).symm.trans z.1) qc,λq hq=>?_⟩)))))⟩))))));rw[show ik (yP mv) (a_ 1) b_=mv.2.map V.int from Kj _ _];refine aO (nw (o:=.tup (mv.2.map V.int)) hq) λH3 e3 s3 E4=>?_;rw[e3];clear e3;refine dQ q rfl ⟨_,aB.of E4⟩ (eN (n:=mv.2.length) (λi ys H'=>H3=H'/\ys=(List.replicate i c_).map V.bl) (c8 (f7 hl)) ⟨rfl,rfl⟩ (λi ys H' z=>by rw[z.2,List.length_map,List.length_replicate];exact aw _) ?_ ?_ ?_ ?_)
  ·rintro i ys H' hi ⟨rfl,_⟩;exact eO _ _ (aB.of E4) (List.getElem?_eq_getElem (by rw[List.length_map];exact hi))
  ·rintro ys H' ⟨rfl,_⟩;exact aA _ (aB.of E4) (by rw[List.length_map];exact aw _)
  ·rintro i ys H' hi ⟨rfl,e⟩ z iE ⟨eH,eF⟩;subst eH;have hz:=eF _ (aB.of E4);rw[List.getElem?_map]at hz;refine ai (lN.mp hz) λj _ ej=>?_;subst ej;dsimp only[mf,jj];rw[if_pos rfl];refine vr rfl ⟨j,rfl,rfl,?_⟩;rw[e,List.replicate_succ',List.map_append];rfl
  ·rintro ys H' ⟨rfl,e⟩;refine⟨by rw[e,List.length_map,List.length_replicate];exact c8 (f7 hl),λr dE=>⟨r,List.replicate mv.2.length c_,rfl,ae.of (by rw[ao,e]),?_⟩⟩;rw[Iv];exact k _ (aE s3 dE)
end
def iL(S:Mc)(mv:Mv):Mc:=if mv.1 = "do" then oX S (mv.2.getD 0 0).toNat else iI S (mv.2.getD 0 0).toNat (mv.2.getD 1 0).toNat
theorem xU(h:mv∈jA S):(∃c:Nat,mv=(("do" : Str),[(c:Int)])/\c<S.ck.length/\uh S c=c_)\/(∃(c:Nat) (k:Ck) (n:Int),mv=(("carry" : Str),[(c:Int),n])/\S.ck[c]?=a_ k/\n∈gH S.kd k.es):=by
 unfold jA at h;rcases List.mem_append.mp h with h | h
 ·left
  unfold uk at h;refine ai (List.mem_map.mp h) λc hc aa=>?_;subst aa;exact oA (List.mem_filter.mp hc) λh1 h2=>dQ c rfl (List.mem_range.mp h1) h2
 ·right
  unfold iU uo at h;refine ai (List.mem_flatMap.mp h) λaa hx hm=>?_;obtain⟨k,c⟩:=aa;unfold AA at hm;refine ai (List.mem_map.mp hm) λn hn aa=>?_;subst aa;have hc:S.ck[c]?=a_ k:=List.mem_zipIdx_iff_getElem?.mp hx;exact⟨c,k,n,rfl,hc,hn⟩
theorem Oz(h:mv∈jA S):F8 mv.1=true:=by
 rcases xU h with ⟨c,rfl,_,_⟩ | ⟨c,k,n,rfl,_,_⟩
 ·show F8 "do" = c_;decide +kernel
 ·show F8 "carry" = c_;decide +kernel
theorem Cz{c:Nat}(W:gC S)(hc:c<S.ck.length)(h:uh S c=c_):∃k p s sz,S.ck[c]?=a_ k/\S.ps[c]?=a_ p/\p[k.pl]?=a_ s/\gf sz s:=by
 have hk:S.ck[c]?=a_ S.ck[c]:=List.getElem?_eq_getElem hc;refine cC (W.part hk) λp hp _ _ hg=>?_;rw[Ij hk hp]at h;have hs:=List.getElem?_eq_getElem (of_decide_eq_true h);exact⟨_,p,_,_,hk,hp,hs,hg _ (List.mem_of_getElem? hs)⟩
theorem adC(h:mv∈jA S):mv.2.length<=1000:=by
 rcases xU h with ⟨c,rfl,_⟩ | ⟨c,k,n,rfl,_⟩ <;> simp
section
variable{t:aZ}{C CT:e_}{u:mI}
def J6(t:aZ)(C CT PT:e_):Sp:=λvs H Q _=>∃m A S p mv lab,vs=[.ref m,.ref p]/\aX t C CT H m A S/\jq lab m A/\gC S/\A0 S/\cY PT LP LQ H/\H p=a_ (.tup (yP mv))/\mv∈jA S/\
 ∀H',aX t C CT H' m A (iL S mv)->aV (cF m A) H H'->cY PT LP LQ H'->Q .aH H'
theorem aeT:bf zLt zLt (aR J8):=bz
theorem abp{k:Nat}(r:eJ k A):A.units+65<cLine:=by have:=r.un;lia
theorem aa5{K:u_}(h:Paired (jo H) vs l):kg K H vs (l.map sk):=OG (F:=jo H) (λv a q=>by
 obtain⟨p,rfl,q⟩:=q;exact Rc q) h
theorem ads{f fF fM fS fC PT:e_}(F:aU K "do" "Machine.do" J8 f fd)(cM:eP K C)
  (GF:ax P w K mg base ay 2 fF vd ["move"] QL) (kF:x_ K (.ref fF)=c_) (bF:Binds K vd ["move"] []) (mF:mg "has_form_of_move" = a_ (.ref fF))
  (GM:ax P w K mg base ay 4 fM fdM zLf (HN t C CT PT)) (bM:Binds K fdM zLf []) (mM:Meth K C "moves" fM)
  (GS:ax P w K mg base ay 6 fS kj zLd (OY t C CT PT)) (bS:Binds K kj zLd []) (mS:Meth K C "do_step" fS)
  (GC:ax P w K mg base ay 4 fC pL zLm (HP t C CT PT)) (bC:Binds K pL zLm []) (mC:Meth K C "carry" fC):ax P w K mg base ay 7 f fd zLt (J6 t C CT PT):=by
 refine F.ok aeT λaL A _ s H vs Q E hr h=>?_
 ·obtain⟨m,A,S,p,mv,lab,aa,M,L,W,a8⟩:=h;subst aa;obtain⟨eW,wx,Vu,jd,q⟩:=a8;have iC:=hr.mono (show 2<=6 by decide);have wZ:=hr.mono (show 4<=6 by decide);refine let R2:TS:=_;let R3:TS:=_;let R4:TS:=_;⟨_,ar (bZ (PW.pt (pw_or (jW (gd (cU GF iC rfl mF kF bF .nil aT (ab (pv 1) af)))) (pw_or1 (bo (Y' (abp hr)) (pv 1) (jT (pv 0) cM.cl mM GM wZ bM .nil aT) rfl)))) gV cp) (pR R4 (aG (bZ (bo cH (aJ cq (pv 1) aq) cJ (a7 _)) (pR R2 (aG (dq (iW (pv 0) cM.cl mS GS hr bS .nil aT (ab (aJ cq (pv 1) aq) af))))) (pR R3 (aG (dq (iW (pv 0) cM.cl mC GC wZ bC .nil aT (ab (aJ cq (pv 1) aq) (ab (aJ cq (pv 1) aq) af))))))))),?_⟩
  refine vr rfl ⟨p,mv,rfl,Vu,adC jd,λH1 s1=>aA _ rfl ?_⟩;have M1:=M.same s1;refine bX (id M1.obj) λdx fs hm G=>dJ (vr rfl (vM rfl hm (G.ms _ dk) (jU m A S rfl M1 W (oh wx s1) λH2 l vs k2 jQ hn jc wV=>?_)));have lF:=k2.JZ _ _ (s1 _ _ Vu);refine⟨l,vs,_,(⟨_,rfl,(ae.of jc),(aa5 wV),(Rc lF),(Oy (Oz jd)),(λd hd=>?_),(aA _ rfl ?_)⟩)⟩
  ·refine ai (List.mem_map.mp hd) λa ha aa=>?_;subst aa;exact Oy (Oz ha)
  rw[if_pos rfl,aeg];have k02:=(aV.of s1).trans k2
  ·rw[decide_eq_true jd];refine dJ ?_;have M2:=M1.rQ k2;refine bX (id M2.obj) λBL su jv G3=>?_;have kk:∀H',aV (cF m A) H2 H'->aV (cF m A) H H':=λH' k=>(k02.mono λb z=>z.elim).trans k;rcases xU jd with ⟨c,rfl,hc,wq⟩ | ⟨c,k,n,rfl,hk,lK⟩
   ·refine nE (Cz W hc wq) λk pt st sz hk aa=>dg aa λLJ dv g=>gj (j:=0) rfl lF rfl ⟨rfl,⟨_,rfl,bQ (λ_=>?_) λy=>absurd rfl y⟩⟩;exact vM rfl jv (G3.ms _ dk) (gj (j:=1) rfl lF rfl (⟨m,A,S,c,k,pt,st,sz,lab,rfl,M2,L,W,eW,(⟨jQ,hk,LJ,dv,g,(λH3 M3 k3 sW=>q H3 M3 (kk _ k3) sW)⟩)⟩))
   ·refine ai (M.ue hk) λx hx T=>aO (Cg T.wf lK) λi hi aa _=>?_;subst aa;exact gj (j:=0) rfl lF rfl ⟨rfl,⟨_,rfl,bQ (λy=>absurd (show ("carry" : Str) = "do" from J4 y) dk) λ_=>vM rfl jv (G3.ms _ dk) (gj (j:=1) rfl lF rfl (gj (j:=2) rfl lF rfl (⟨m,A,S,c,k,i,lab,rfl,M2,L,jQ,hk,lK,hi,(⟨W.bd,W.ov,eW,(λH3 M3 k3 sW=>q H3 M3 (kk _ k3) sW)⟩)⟩)))⟩⟩
end
theorem ZA{sz:Nat}(g:gf sz s)(h:s.1 = "skip"):∃r q:Nat,s=(("skip" : Str),[r,q])/\q<=sz:=by
 cases g with
 | skip r q _ h2 _=>exact⟨r,q,rfl,h2⟩
 | set r n _ _=>exact absurd (show ("set" : Str) = "skip" from h) dk
 | look r n _ _=>exact absurd (show ("look" : Str) = "skip" from h) dk
theorem aft{X:Cx}(K:u_)(h:X.K=K:=by rfl):jC X (.builtin "isinstance") (Sw K):=by subst h;exact iV
theorem acp:(["part"]:List Str).Nodup:=dk
theorem jg{α β:Type}{F:α->β->Prop}:∀{l:List α} {r:List β} {i:Nat} {x:α},Paired F l r->l[i]?=a_ x->∃y,r[i]?=a_ y/\F x y
 | _,_,_,_,.nil,e=>by simp at e
 | _,_,0,_,.cons h _,e=>by simp at e;subst e;exact⟨_,rfl,h⟩
 | _,_,i+1,x,.cons _ t,e=>by
  exact ai (jg (i:=i) t (by simpa using e)) λy h1 h2=>aA y (by simpa using h1) h2
section
variable{t:aZ}{u:mI}
def RE:Sp:=λvs H Q _=>∃v ps,vs=[v]/\tS H v ps/\yp ps/\∀H',ah H H'->Q (.bl c_) H'
theorem aeU:bf zLu zLu (aR J'):=bz
theorem adt(F:aU K "has_clerks" "has_clerks" J' f fd)(B:Bl mg)(C:∃u,mg "CLERKS" = a_ u/\RelV (.int 4) u):ax P w K mg base ay 1 f fd zLu RE:=by
 refine ai C λuC mC rC=>F.ok aeU λaL A _ s H vs Q E hr h=>?_
 ·refine ic h λv ps aa a8 g k=>?_;clear h;subst aa;refine dC a8 λa xs aa ha hp=>?_;clear a8;subst aa
  refine let R1:TS:=_;⟨_,ar (bZ (PW.pt (pw_or (jW (gd (bw iV rfl B.i8 je (ab (pv 0) (ab (oB (v:=.ty "tuple") rfl B.tuple pX rfl) af))))) (pw_or1 (jW (aae JB JB aq (bw dP rfl B.len q_ (ab (pv 0) af)) (gx rfl mC rC))))))
    gV cp)
   (pR R1 (aG (bg (bw (CG rfl) rfl B.all boot_all (ab (g6 (N:=["part"]) (idx:=[]) rfl (cZ.of (by kernel_rfl)) (gF (aP _))
    (rJ (pv 0)) (λ_ _ _ _=>bb (i:=0) acp rfl (aF rfl) (.inr rfl)) (λ_ _ _ _=>gZ)
    λ_ _ _ _=>bw (aft K) rfl B.i8 je (ab (pv 0) (ab (oB (v:=.ty "tuple") rfl B.tuple pX rfl) af))) af))))),?_⟩
  have hT:=xN ha;have hi:yw "tuple" "tuple" = true:=qc;have hl:=r_ hp;have g1:=g.ne;have g2:=g.le;refine vr rfl (dY _ _ _ _ (gL _ rfl (oS hT) rfl (oO hT qc) (aA _ rfl ?_)));rw[hi];refine dJ (vr rfl (dZ a xs rfl (.inr (aB.of ha)) ⟨_,⟨_,rfl,rfl,_,rfl,bQ (λh1=>?_) λh1=>absurd (show (1:Int)<=(xs.length:Int) by lia) h1⟩⟩));refine⟨_,⟨_,rfl,rfl,_,rfl,lg (λh2=>absurd (show (xs.length:Int)<=4 by lia) h2) λh2=>aA _ rfl (dQ a rfl ⟨xs,aB.of ha⟩ (eN (n:=xs.length) (λi ys H'=>i<=xs.length/\ah H H'/\ys=(List.replicate i c_).map V.bl) (c8 (f7 w8)) (eT (aP _) (ah.refl _) rfl) ?_ ?_ ?_ ?_ ?_))⟩⟩
  ·intro i ys H' au;refine dg au λ_ _ e=>?_;rw[e,List.length_map,List.length_replicate];exact aw _
  ·intro i ys H' hi au;exact dg au λ_ s1 _=>eO xs (xs[i]) (aB.of (s1 _ _ ha)) (List.getElem?_eq_getElem hi)
  ·intro ys H' au;exact dg au λ_ s1 _=>aA xs (aB.of (s1 _ _ ha)) (aw _)
  ·intro i ys H' hi2 au x iE ft;refine dg au λ_ s1 e=>oA ft λeH eV=>?_;subst eH;have pA:=eV xs (aB.of (s1 _ _ ha));refine ai (jg hp pA) λp _ aa=>dC aa λb us aa hb _=>?_;subst aa;have V9:=xN (s1 _ _ hb);refine vr rfl (dY _ _ _ _ (⟨_,rfl,(oS V9),rfl,(oO V9 qc),hi2,s1,?_⟩));rw[hi,e,List.replicate_succ',List.map_append];rfl
  ·intro ys H' au;refine dg au λ_ s1 e=>⟨?_,λr dE=>?_⟩
   ·rw[e,List.length_map,List.length_replicate];exact c8 (f7 w8)
   refine dZ r (List.replicate xs.length c_) rfl (ae.of (by rw[ao,e])) ?_;rw[Iv];exact k _ (aE s1 dE)
def QM:Sp:=λvs H Q _=>∃(v:V) (s:Tl) (p n:Nat),vs=[v,.int (p:Nat),.int (n:Nat)]/\vQ H v s/\gf n s/\p<120/\∀H',ah H H'->Q (.bl c_) H'
theorem QS:bf ["told","place","length","step"] zLq (aR Jv):=bz
theorem ace(F:aU K "fits" "fits" Jv f fd)(O:yz K mg t u):ax P w K mg base ay 5 f fd zLq QM:=by
 have T:=O.st;have GX:ax P w K mg base ay 4 t.fO t.lD ["told"] (Hd t):=Ov T;refine ai T.cn.long λuL mL rL=>F.ok QS λaL A _ s H vs Q E hr h=>?_
 ·obtain⟨v,st,p,n,aa,hI,g,hp,k⟩:=h;subst aa;refine let R1:TS:=_;let R2:TS:=_;⟨_,ar (abZ λpn=>aG (bp (i:=3) QS.nd rfl (aF rfl) (cU GX hr rfl T.mO T.KY.kp T.bO .nil aT (ab (pv 0) af)))) (pR R2 (ar (bZ (PW.pt (pw_and (gd (bw iV rfl T.bl.i8 je (ab (pv 3) (ab (gx (v:=.ref t.i3) rfl T.Jb rfl) af)))) (pw_and1 (bo vV (cc (pv 3) rfl) (pv 2) (a7 _))))) gV cp) (pR R1 (aG (bg (kU Av (pv 1) (gx rfl mL rL) (a7 _))))))),?_⟩
  refine ai hI λa aa ha=>?_;clear hI;subst aa;have ain:decide ((p:Int)<120)=true:=decide_eq_true li;refine vr rfl ⟨a,st,n,rfl,ha,g,λz dx H1 s1 hz eF=>?_⟩;have kk:=k H1 s1;rw[<-ain]at kk;refine ym (Dg O g eF) λC _ _ _ ty c6=>vr rfl (⟨_,(.ref t.i3),(.ref C),(.ref t.i3),(decide (st.1 = "skip")),rfl,ty,rfl,c6.RK,(tk (bQ (λhx=>?_) λhx=>dJ (aA _ rfl ⟨_,⟨_,rfl,rfl,kk⟩⟩)))⟩);refine bX (ZA g hx) λr q aa hq=>?_;subst aa;refine vF (v:=.int (q:Nat)) rfl eF T.tQ T.Ja rfl (vr rfl ⟨_,⟨_,rfl,rfl,_,rfl,bQ (λhq2=>?_) λ_=>⟨_,rfl,_,_,rfl,rfl,kk⟩⟩⟩);exact absurd hq2 (by show ¬((n:Int)<(q:Int));lia)
def QK:Sp:=λvs H Q _=>∃v ps,vs=[v]/\tS H v ps/\yp ps/\∀H',ah H H'->Q .aH H'
theorem Ao:bf ["program","clerk","part","place","told"] zLu (aR Gs):=bz
theorem acb(F:aU K "look_over" "look_over" Gs f fd)(B:Bl mg)(qR:mg "enumerate" = b_)
  (GH:ax P w K mg base ay 1 fH Mr zLu RE) (kH:x_ K (.ref fH)=c_) (bH:Binds K Mr zLu []) (mH:mg "has_clerks" = a_ (.ref fH))
  (GF:ax P w K mg base ay 5 fF vd zLq QM) (kF:x_ K (.ref fF)=c_) (bF:Binds K vd zLq []) (mF:mg "fits" = a_ (.ref fF)) :
  ax P w K mg base ay 6 f fd zLu QK:=by
 refine F.ok Ao λaL A _ s H vs Q E hr h=>?_
 ·refine ic h λv ps aa a8 g k=>?_;clear h;subst aa;refine dC a8 λa xs aa ha hp=>?_;clear a8;subst aa
  refine let R1:TS:=_;let R2:TS:=_;let R3:TS:=_;⟨_,ar (bZ (jW (gd (cU GH (hr.mono qc) rfl mH kH bH .nil aT (ab (pv 0) af)))) gV cp)
   (pR R3 (aG (hV gr rfl (vD (b:=d_) rfl qR (ab (pv 0) af)) (kX rfl (dn (bb (i:=1) Ao.nd rfl (aF rfl)) (dn (bb (i:=2) Ao.nd rfl (aF rfl)) kQ))) (pR R2 (aG (hV gr rfl (vD (b:=d_) rfl qR (ab (pv 2) af)) (kX rfl (dn (bb (i:=3) Ao.nd rfl (aF rfl)) (dn (bb (i:=4) Ao.nd rfl (aF rfl)) kQ))) (pR R1 (aG (bZ (jW (gd (cU GF hr rfl mF kF bF .nil aT (ab (pv 4) (ab (pv 3) (ab (bw dP rfl B.len q_ (ab (pv 2) af)) af)))))) gV cp))))))))),?_⟩
  refine vr rfl (⟨(.ref a),ps,rfl,⟨a,xs,rfl,ha,hp⟩,g,(λH1 s1=>(aA _ rfl (dJ ?_)))⟩)
  let W1:IV:=λi σ H'=>∃c q p d,σ=[a_ (.ref a),c,q,p,d]/\ah H H'
  refine vr rfl (dZ a xs rfl (aB.of (s1 _ _ ha)) (As (n:=xs.length) W1 ⟨b_,b_,b_,b_,rfl,s1⟩ ?_ ?_ ?_ ?_))
  ·intro i σ H' hi au;exact nE au λ_ _ _ _ _ s2=>eO xs (xs[i]) (aB.of (s2 _ _ ha)) (List.getElem?_eq_getElem hi)
  ·intro σ H' au;exact nE au λ_ _ _ _ _ s2=>aA xs (aB.of (s2 _ _ ha)) (aw _)
  ·intro i σ H2 hi au z H3 ft;refine nE au λc q p d aa s2=>?_;clear au;subst aa;refine ic ft λr x dE ez eH eV=>?_;subst ez;subst eH;have pA:=eV xs (aB.of (s2 _ _ ha));refine ai (jg hp pA) λpt LJ aa=>dC aa λb us aa nh gE=>?_;subst aa;refine oA (g.part pt (List.mem_of_getElem? LJ)) λg3 g4=>?_;have uS:=r_ gE;rw[<-uS]at g3 g4;have s3:ah H (upd H2 r (.tup [.int i,.ref b])):=aE s2 dE;refine⟨r,([.int i,.ref b]),rfl,(aB.of ao),rfl,(eO (.int i) ([.ref b]) rfl (dZ (.ref b) ([]) rfl rfl ?_))⟩
   let W2:IV:=λj σ H'=>∃p d,σ=[a_ (.ref a),a_ (.int i),a_ (.ref b),p,d]/\ah H H'
   refine vr rfl (dZ b us rfl (aB.of (s3 _ _ nh)) (As (n:=us.length) W2 ⟨p,d,rfl,s3⟩ ?_ ?_ ?_ ?_))
   ·intro j σ H' hj au;exact bX au λ_ _ _ s4=>eO _ (us[j]) (aB.of (s4 _ _ nh)) (List.getElem?_eq_getElem hj)
   ·intro σ H' au;exact bX au λ_ _ _ s4=>aA _ (aB.of (s4 _ _ nh)) (aw _)
   ·intro j σ H4 hj au z' H5 ft;refine bX au λp' d' aa s4=>?_;clear au;subst aa;refine ic ft λr' y E3 ez' Ms y3=>?_;subst ez';subst Ms;have hyj:=y3 _ (aB.of (s4 _ _ nh));refine ai (jg gE hyj) λst dv hI=>?_;have s5:ah H (upd H4 r' (.tup [.int j,y])):=aE s4 E3;exact⟨r',([.int j,y]),rfl,(aB.of ao),rfl,(eO (.int j) ([y]) rfl (dZ y ([]) rfl rfl (aA _ rfl (vr rfl (vr rfl ⟨b,⟨_,rfl,.inr (aB.of (s5 _ _ nh)),y,st,j,us.length,rfl,hI.keep λb xs e=>s5 _ _ e,g4 st (List.mem_of_getElem? dv),wh,λH6 s6=>⟨_,rfl,dJ ⟨_,_,rfl,s5.trans s6⟩⟩⟩⟩)))))⟩
   ·intro σ H4 au;refine bX au λp' d' aa s4=>?_;clear au;subst aa;exact⟨_,_,_,(aA _ rfl s4)⟩
  ·intro σ H2 au;refine nE au λ_ _ _ _ aa s2=>?_;clear au;subst aa;exact k H2 s2
end
structure Own(H0:Hp)(m:e_)(H:Hp)(R:e_->Nat->Prop):Prop where
 l:∃lab:e_->Nat,∀a v,R a v->lab a=v
 p:∀a v,R a v->H a≠b_
 f:∀a v,R a v->a=m\/H0 a=b_
 t:∀b,H b=b_->H0 b=b_
section
variable{H0 H H':Hp}{m:e_}{R R':e_->Nat->Prop}
theorem Own.keep(h:Own H0 m H R)(k:∀b,H' b=b_->H b=b_):Own H0 m H' R:=⟨h.l,λa v r z=>h.p a v r (k a z),h.f,λb z=>h.t b (k b z)⟩
theorem Own.adds(h:Own H0 m H R)(k:∀b,H' b=b_->H b=b_){B:e_->Prop}{n:Nat}(hB:∀b,B b->H b=b_)(Bx:∀b,B b->H' b≠b_):Own H0 m H' λa v=>R a v\/(B a/\v=n):=by
 obtain⟨⟨lab,h1⟩,h2,h3,h4⟩:=h
 classical
 refine⟨⟨λa=>if B a then n else lab a,λa v r=>?_⟩,λa v r=>?_,λa v r=>?_,λb z=>h4 b (k b z)⟩
 ·rcases r with r | ⟨r,rfl⟩
  ·show (if B a then n else lab a)=v;rw[if_neg λz=>h2 a v r (hB a z)];exact h1 a v r
  ·show (if B a then v else lab a)=v;rw[if_pos r]
 ·rcases r with r | ⟨r,rfl⟩
  ·exact λz=>h2 a v r (k a z)
  ·exact Bx a r
 ·rcases r with r | ⟨r,rfl⟩
  ·exact h3 a v r
  ·exact .inr (h4 a (hB a r))
theorem Own.add(h:Own H0 m H R)(k:∀b,H' b=b_->H b=b_){n:Nat}(hB:H b=b_)(Bx:H' b≠b_):Own H0 m H' λa v=>R a v\/(a=b/\v=n):=
 h.adds k (B:=λa=>a=b) (λc z=>by rw[z];exact hB) (λc z=>by rw[z];exact Bx)
theorem Cw{o:HO}:∀b,upd H x o b=b_->H b=none:=λb e=>by
 by_cases z:b=x
 ·rw[z,ao]at e;cases e
 ·rwa[ag z]at e
theorem Own.new(h:Own H0 m H R){n:Nat}{o:HO}(hB:H b=b_):Own H0 m (upd H b o) λa v=>R a v\/(a=b/\v=n):=h.add Cw hB (by rw[ao];intro z;cases z)
end
structure dI(m:e_)(H H':Hp):Prop where
 k:∀b o,b≠m->H b=a_ o->H' b=a_ o
 t:∀b,H' b=b_->H b=b_
theorem dI.of(s:ah H H'):dI m H H':=⟨λb o _ e=>s b o e,λb h=>s.free h⟩
theorem dI.trans(a:dI m H H1)(b:dI m H1 H2):dI m H H2:=⟨λc o n e=>b.k c o n (a.k c o n e),λc h=>a.t c (b.t c h)⟩
theorem dI.upd{o:HO}:dI m H (upd H m o):=⟨λb q n e=>by rw[ag n];exact e,Cw⟩
section
variable{t:aZ}{C CT:e_}{u:mI}
theorem qo.same(s':ah H H')(h:qo t H v s):qo t H' v s:=h.keep λb C dx fs e _=>s' _ _ e
def Og(t:aZ):Sp:=λvs H Q _=>∃v p,vs=[v]/\IsPart H v p/\p.length<=120/\(∀s∈p,gf p.length s)/\∀H' b us,ah H H'->H b=b_->H' b=a_ (.tup us)->Paired (qo t H') us p->Q (.ref b) H'
theorem Y4:bf ["part"] ["part"] (aR Hm):=bz
theorem aco:(["told"]:List Str).Nodup:=dk
theorem F4{α β:Type}{F:α->β->Prop}{x:α}{y:β}(h:F x y):∀{l:List α} {r:List β},Paired F l r->Paired F (l++[x]) (r++[y])
 | _,_,.nil=>.cons h .nil
 | _,_,.cons g t=>.cons g (F4 h t)
theorem Yy(F:aU K "steps_of" "steps_of" Hm f fd)(T:tR K mg t)(lG:mg "tuple" = b_):ax P w K mg base ay 5 f fd ["part"] (Og t):=by
 have GX:ax P w K mg base ay 4 t.fO t.lD ["told"] (Hd t):=Ov T;refine F.ok Y4 λaL A _ s H vs Q E hr h=>?_
 ·refine ic h λv p aa a8 hl zq2=>?_;clear h;subst aa;refine dC a8 λa vs aa ha hp=>?_;clear a8;subst aa;refine oA zq2 λhg k=>?_
  refine⟨_,aG (bg (pZ zJ rfl lG pX (ab (g6 (N:=["told"]) (idx:=[]) rfl (cZ.of (by kernel_rfl)) (gF (aP _)) (rJ (pv 0))
   (λ_ _ _ _=>bb (i:=0) aco rfl (aF rfl) (.inr rfl)) (λ_ _ _ _=>gZ) λ_ _ _ _=>cU GX hr rfl T.mO T.KY.kp T.bO .nil aT (ab (pv 0) af)) af))),?_⟩
  have hlen:=r_ hp;refine aA _ rfl (dQ a rfl ⟨_,aB.of ha⟩ (eN (n:=vs.length) (λi ys H'=>i<=vs.length/\ah H H'/\Paired (qo t H') ys (p.take i)) (c8 (f7 w8)) (eT (aP _) (ah.refl _) .nil) ?_ ?_ ?_ ?_ ?_))
  ·intro i ys H' au;refine dg au λ_ _ e=>?_;rw[r_ e,List.length_take];exact xl
  ·intro i ys H' hi au;exact dg au λ_ s1 _=>eO _ _ (aB.of (s1 _ _ ha)) (List.getElem?_eq_getElem hi)
  ·intro ys H' au;exact dg au λ_ s1 _=>aA _ (aB.of (s1 _ _ ha)) (aw _)
  ·intro i ys H1 hi au z H2 ft;refine dg au λ_ s1 e=>oA ft λeH eF=>?_;subst eH;have hz:=eF _ (aB.of (s1 _ _ ha));refine ai (jg hp hz) λst dv hI=>?_;have gst:=hg st (List.mem_of_getElem? dv);have Wd:vQ H2 z st:=hI.keep λb xs e=>s1 _ _ e;refine ai Wd λb aa hb=>?_;clear Wd;subst aa;dsimp only[mf,jj];rw[if_pos rfl];refine vr rfl ⟨b,st,_,rfl,hb,gst,λz dx H3 s3 EN hz3=>eT hi (s1.trans s3) ?_⟩;rw[List.take_add_one,dv];exact F4 ⟨z,b,dx,rfl,hz3⟩ (Paired.b9 e λ_ _ q=>q.same s3)
  ·intro ys H1 au;refine dg au λ_ s1 e=>?_;have hle:=r_ e;rw[List.length_take]at hle;refine⟨c8 (f7 li),λr dE=>⟨r,ys,rfl,.inl ⟨ae.of ao,λl hl=>?_⟩⟩⟩;have s2:=aE (o:=.lst ys) s1 dE;have s3:=aE (o:=.tup ys) s2 hl;rw[List.take_of_length_le li]at e;exact k _ l ys s3 (s2.free hl) ao (Paired.b9 e λ_ _ q=>(q.same (aE (ah.refl _) dE)).same (aE (ah.refl _) hl))
end
structure AN(K:u_)(x qual:Str)(st:Stmt)(f:e_)(fd:lW)(d:Str):Prop where
 ex:∃(oc:f_) (od:Option e_) (T:e_) (kV doc pm:f_) (an:Option e_) (aL ct:f_) (iz:Array (Option f_)) (c1:f_) (d1:Option e_) (n1:Nat) (sH:Array (Option f_)) (tk:Nat),fd=B_ x qual (jz st) (iG st) (aR st) (.ref T) kV doc pm an aL ct/\K.lookup f=a_ ⟨oc,od,.func fd,iz⟩/\W.codeIn K aL qual=c_/\K.lookup T=a_ ⟨c1,d1,.seq #[.str d tk] n1,sH⟩
 kp:x_ K (.ref f)=c_
def k0:Ck:=⟨0,0,[0,0,0,0],0,[]⟩
def yv(kd:Str)(ps:List Pt):Mc:=⟨kd,ps,ps.map λ_=>k0,List.replicate 12 0,[],List.replicate 12 []⟩
theorem F5{α β γ:Type}{F:α->β->Prop}{y:β}:∀{l:List α} {r:List γ},l.length=r.length->(∀x∈l,F x y)->Paired F l (r.map λ_=>y)
 | [],[],_,_=>.nil
 | [],_::_,h,_=>by cases h
 | _::_,[],h,_=>by cases h
 | x::l,z::r,h,g=>.cons (g x (by simp)) (F5 (by simpa using h) λx hx=>g x (List.mem_cons_of_mem _ hx))
theorem NR{α β:Type}{F:α->β->Prop}{y:β}:∀{l:List α} {n:Nat},l.length=n->(∀x∈l,F x y)->Paired F l (List.replicate n y)
 | [],0,_,_=>.nil
 | [],_+1,h,_=>by cases h
 | _::_,0,h,_=>by cases h
 | x::l,n+1,h,g=>.cons (g x (by simp)) (NR (by simpa using h) λx hx=>g x (List.mem_cons_of_mem _ hx))
theorem afg:(["kind","part"]:List Str).Nodup:=dk
theorem Dv:(["part"]:List Str).Nodup:=dk
theorem afd:(["name"]:List Str).Nodup:=dk
theorem Hf{α:Type}{l:List α}{x y:α}{i:Nat}(h:(l++[x])[i]?=a_ y):l[i]?=a_ y\/(i=l.length/\y=x):=by
 by_cases hi:i<l.length
 ·left;rwa[List.getElem?_append_left hi]at h
 ·right
  rw[List.getElem?_append_right li]at h
  by_cases e:i-l.length=0
  ·rw[e]at h;simp at h;exact⟨li,h.symm⟩
  ·rw[List.getElem?_eq_none (by simp;lia)]at h;cases h
theorem Own.nx{R:e_->Nat->Prop}{o:HO}(n:Nat)(h:Own H0 m H R)(hB:H b=b_):∃R',Own H0 m (upd H b o) R'/\(∀a v,R a v->R' a v)/\R' b n:=⟨_,h.new (n:=n) hB,λa v z=>.inl z,.inr ⟨rfl,rfl⟩⟩
theorem Own.nw{R:e_->Nat->Prop}{o:HO}(n:Nat)(h:Own H0 m H R)(hB:H b=b_):∃H' R',H'=upd H b o/\ah H H'/\H' b=a_ o/\Own H0 m H' R'/\(∀a v,R a v->R' a v)/\R' b n:=aO (h.nx (o:=o) n hB) λR' a i r=>⟨_,R',rfl,aE (ah.refl _) hB,ao,a,i,r⟩
theorem ug{fs:List (Str×V)}{R:e_->Nat->Prop}{k:Nat}(x:Str)(v:V)(_:h m=a_ (.ins C dx fs))(hf:fs.length<=k)(O:Own H m h R):∃f h',f=aQ x v fs/\h'=upd h m (.ins C dx f)/\f.length<=k+1/\dI m h h'/\h' m=a_ (.ins C dx f)/\Own H m h' R:=⟨_,_,rfl,rfl,cx (pV x v fs) (qX hf),dI.upd,ao,O.keep Cw⟩
theorem Own.nxs{R:e_->Nat->Prop}(n:Nat)(B:e_->Prop)(h:Own H0 m H R)(k:∀b,H' b=b_->H b=b_)(hB:∀b,B b->H b=b_)(Bx:∀b,B b->H' b≠b_):∃R',Own H0 m H' R'/\(∀a v,R a v->R' a v)/\∀b,B b->R' b n:=⟨_,h.adds (n:=n) k hB Bx,λa v z=>.inl z,λb z=>.inr ⟨z,rfl⟩⟩
theorem dI.tup{fs:List (Str×V)}(k:dI m H H')(hm:H m=a_ (.ins C dx fs)):∀b xs,H b=a_ (.tup xs)->H' b=a_ (.tup xs):=λb xs e=>k.k b _ (λz=>by rw[z,hm]at e;cases e) e
theorem dI.lst{fs:List (Str×V)}(k:dI m H H')(hm:H m=a_ (.ins C dx fs))(e:H b=a_ (.lst xs)):H' b=a_ (.lst xs):=k.k b _ (λz=>by rw[z,hm]at e;cases e) e
theorem oG{fs lM:List (Str×V)}(e:lM=aQ x v fs):lM.lookup x=a_ v:=by rw[e,eG,if_pos rfl]
theorem bJ{r:Option V}{fs lM:List (Str×V)}(h:fs.lookup y=r)(e:lM=aQ x v fs)(n:y≠x):lM.lookup y=r:=by rw[e,eG,if_neg n];exact h
theorem Pk{K:u_}{H h:Hp}{m C dx pg:e_}{fs:List (Str×V)}{fld:Str}{ph:List V}{ps:List Pt}{D:Ends}{σ:L2.St}{R:e_->Nat->Prop}{k:Nat}(n:Nat)(e0:σ[0]?=a_ (a_ (.ref m)))(e1:σ[1]?=a_ (a_ (.ref pg)))(hp:h pg=a_ (.tup ph))(hl:ph.length=ps.length)(h4:ps.length<=4)(hm:h m=a_ (.ins C dx fs))(cl:fq K C)(na:cV K C fld)(hf:fs.length<=k)(hk:k<900)(O:Own H m h R)
  (q:∀l h' f' R',f'=aQ fld (.ref l) fs->f'.length<=k+1->h' m=a_ (.ins C dx f')->h' l=a_ (.lst (ps.map λ_=>V.int 0))->dI m h h'->Own H m h' R'->(∀a v,R a v->R' a v)->R' l n->D.nx σ h') :
  Sv K (qt 0) (Jn (SH K (qt 1)) (jj 0) mf (tC (.int 0)) [] 1) fld D σ h:=by
 refine⟨_,e1,pg,rfl,⟨_,aB.of hp⟩,eN (n:=ph.length) (λi ys H'=>i<=ph.length/\H'=h/\ys=(ps.take i).map λ_=>V.int 0) (c8 (f7 li)) (eT (aP _) rfl rfl) ?_ ?_ ?_ ?_ ?_⟩
 ·intro i ys H' au;obtain⟨_,_,e⟩:=au;rw[e,List.length_map,List.length_take];lia
 ·intro i ys H' hi au;obtain⟨_,rfl,_⟩:=au;exact eO _ _ (aB.of hp) (List.getElem?_eq_getElem hi)
 ·intro ys H' au;obtain⟨_,rfl,_⟩:=au;exact aA _ (aB.of hp) (aw _)
 ·intro i ys H' hi au z iE ft;obtain⟨_,rfl,e⟩:=au;obtain⟨eH,eF⟩:=ft;subst eH;dsimp only[mf,jj];rw[if_pos rfl];refine eT hi rfl ?_;rw[List.take_add_one,List.getElem?_eq_getElem (show i<ps.length by lia),List.map_append,<-e];rfl
 intro ys H' au;obtain⟨_,Ms,e⟩:=au;subst Ms;rw[List.take_of_length_le li]at e;subst e;refine⟨by rw[List.length_map];exact c8 (f7 li),λl nl=>?_⟩;have s1:ah H' (upd H' l (.lst (ps.map λ_=>V.int 0))):=aE (ah.refl _) nl;have g1:upd H' l (.lst (ps.map λ_=>V.int 0)) l=a_ (.lst (ps.map λ_=>V.int 0)):=ao;obtain⟨R1,O1,i1,r1⟩:=O.nx (o:=.lst (ps.map λ_=>V.int 0)) n nl;have jP:=s1 _ _ hm;generalize upd H' l (.lst (ps.map λ_=>V.int 0))=v at s1 g1 O1 jP ⊢;refine⟨_,e0,m,C,dx,fs,rfl,jP,cl,na,li,?_⟩;have ku:dI m v (upd v m (.ins C dx (aQ fld (.ref l) fs))):=dI.upd;exact q l _ _ R1 rfl (by have:=pV fld (V.ref l) fs;lia) ao (ku.lst jP g1) ((dI.of s1).trans ku) (O1.keep (Cw (H:=v) (x:=m))) i1 r1
section
variable{t:aZ}{C CT:e_}{u:mI}
theorem AN.ok{st:Stmt}{k:Nat}{sp:Sp}(F:AN K x qual st f fd d)(S:bf N ps (aR st))
  (v5:∀(aL:f_) (A:h_) (outer:List Env) (s:g_) (H:Hp) (vs:List V) (Q:VK) (E:XK),eJ k (A.deeper (envOfC qual (aR st) s.heap.objs.size f aL))->sp vs H Q E->
   ∃t,fg (um ay P w K mg base N qual (aR st) f aL A outer s H E).uE (iG st) t/\t { nx:=λ_ H'=>Q .aH H',rt:=Q } (start N vs) H) (len:∀vs H Q E,sp vs H Q E->vs.length=ps.length:=by intro _ _ _ _ h;(repeat obtain⟨_,h⟩:=h);subst_vars;rfl):ax P w K mg base ay (k+1) f fd ps sp:=by
 refine B8 F.ex λoc od T kV doc pm an aL ct iz aa=>fj aa λc1 d1 n1 sH tk aa=>nK aa λaa lk iD _=>?_;subst aa;exact vZ lk iD S len λA outer s H vs Q E hr qL=>ai (v5 aL A outer s H vs Q E hr qL) λt h q=>aA t h.uE q
theorem is3(h:us.length=3):∃a b c,us=[a,b,c]/\True:=by
 cases us with
 | nil=>cases h
 | cons a l=>
  cases l with
  | nil=>cases h
  | cons b l=>exact oE (List.length_eq_one_iff.mp (Nz (Nz h))) λc z=>⟨a,b,c,by rw[z],trivial⟩
theorem acu(F:AN K "__init__" "Machine.__init__" Dc f fd "row"):Binds K fd zLo []:=by
 refine B8 F.ex λoc od T kV doc pm an aL ct iz aa=>fj aa λc1 d1 n1 sH tk aa=>nK aa λaa lk iD lT=>?_;subst aa;intro s us hK hl;obtain⟨a,b,c,z,_⟩:=(is3 (by rw[List.append_nil]at hl;exact hl));subst z;exact W.binds_K hK rfl lT rfl rfl rfl
def PQ(t:aZ)(C CT:e_):Sp:=λvs H Q _=>∃m dx v ps kd,vs=[.ref m,v,.str kd]/\H m=a_ (.ins C dx [])/\tS H v ps/\yp ps/\(kd = "row"\/kd = "name"\/kd = "none")/\
 ∀H' A lab,aX t C CT H' m A (yv kd ps)->jq lab m A->v=.ref A.pg->dI m H H'->(∀b,cF m A b->b=m\/H b=b_)->Q .aH H'
theorem abH:bf zLo zLo (aR Dc):=bz
theorem aaw{f fK fT fS:e_}{fd Wn Ff kj:lW}(F:AN K "__init__" "Machine.__init__" Dc f fd "row")(cM:eP K C)(T:tR K mg t)(lG:mg "tuple" = b_)(di:mg "range" = b_)
  (GK:ax P w K mg base ay 6 fK Wn zLu QK) (kK:x_ K (.ref fK)=c_) (bK:Binds K Wn zLu []) (mK:mg "look_over" = a_ (.ref fK))
  (GT:ax P w K mg base ay 3 fT Ff ["kind"] (OS CT)) (kT:x_ K (.ref fT)=c_) (bT:Binds K Ff ["kind"] []) (mT:mg "tray_of" = a_ (.ref fT))
  (GS:ax P w K mg base ay 5 fS kj ["part"] (Og t)) (kS:x_ K (.ref fS)=c_) (bS:Binds K kj ["part"] []) (mS:mg "steps_of" = a_ (.ref fS)) :
  ax P w K mg base ay 7 f fd zLo (PQ t C CT):=by
 refine ai T.cn.names λuN mN rN=>ai T.cn.gg λuR mR rR=>F.ok abH λaL A _ s H vs Q E hr h=>?_
 ·refine fj h λm dx v ps kd aa=>qe aa λaa hm hP g m8 q=>?_;subst aa;have uT:=hr.mono (show 3<=6 by decide);have LH:=hr.mono (show 5<=6 by decide)
  refine let R1:TS:=_;let R2:TS:=_;let R3:TS:=_;let R4:TS:=_;let R5:TS:=_;let R6:TS:=_;let R7:TS:=_;let R8:TS:=_;let R9:TS:=_;let fu:TS:=_;⟨_,ar (dq (cU GK hr rfl mK kK bK .nil aT (ab (pv 1) af))) (pR fu (ar (hZ (pv 0) (g6 (N:=["kind","part"]) (idx:=[2]) rfl (cZ.of (by kernel_rfl)) (gF (aw _)) (rJ (pv 1)) (λ_ _ _ _=>bb (i:=1) afg rfl (aF rfl) (.inr rfl)) (λ_ _ _ _=>gZ)
     λ_ _ _ _=>cU GT uT rfl mT kT bT .nil aT (ab (pv 0) af)) rfl)
   (pR R9 (ar (hZ (pv 0) (pv 1) rfl) (pR R8 (ar (hZ (pv 0) (pv 2) rfl) (pR R7 (ar (hZ (pv 0) (pZ zJ rfl lG pX (ab (g6 (N:=["part"]) (idx:=[]) rfl (cZ.of (by kernel_rfl)) (gF (aP _)) (rJ (pv 1)) (λ_ _ _ _=>bb (i:=0) Dv rfl (aF rfl) (.inr rfl)) (λ_ _ _ _=>gZ)
     λ_ _ _ _=>cU GS LH rfl mS kS bS .nil aT (ab (pv 0) af)) af)) rfl)
   (pR R6 (ar (hZ (pv 0) (g6 (N:=["part"]) (idx:=[]) rfl (cZ.of (by kernel_rfl)) (gF (aP _)) (rJ (pv 1)) (λ_ _ _ _=>bb (i:=0) Dv rfl (aF rfl) (.inr rfl)) (λ_ _ _ _=>gZ) λ_ _ _ _=>aq) rfl)
   (pR R5 (ar (hZ (pv 0) (g6 (N:=["part"]) (idx:=[]) rfl (cZ.of (by kernel_rfl)) (gF (aP _)) (rJ (pv 1)) (λ_ _ _ _=>bb (i:=0) Dv rfl (aF rfl) (.inr rfl)) (λ_ _ _ _=>gZ) λ_ _ _ _=>aq) rfl)
   (pR R4 (ar (hZ (pv 0) (g6 (N:=["part"]) (idx:=[]) rfl (cZ.of (by kernel_rfl)) (gF (aP _)) (rJ (pv 1)) (λ_ _ _ _=>bb (i:=0) Dv rfl (aF rfl) (.inr rfl)) (λ_ _ _ _=>gZ) λ_ _ _ _=>aW IY (dy (ab aq af)) (gx rfl mR rR)) rfl)
   (pR R3 (ar (hZ (pv 0) (aW IY (dy (ab aq af)) (gx rfl mN rN)) rfl) (pR R2 (ar (hZ (pv 0) (dy af) rfl) (pR R1 (aG (hZ (pv 0) (g6 (N:=["name"]) (idx:=[]) rfl (cZ.of (by kernel_rfl)) (gF (aP _)) (jh rfl di (ab (gx rfl mN rN) af)) (λ_ _ _ _=>bb (i:=0) afd rfl (aF rfl) (.inr rfl)) (λ_ _ _ _=>gZ) λ_ _ _ _=>dy af) rfl))))))))))))))))))))),?_⟩
  refine dC (id hP) λpg ph aa lH qN=>?_;subst aa;refine vr rfl (⟨(.ref pg),ps,rfl,hP,g,(λH1 s1=>?_)⟩);have eL:=r_ qN;have hle:=g.le;have npm:=ie lH hm (by intro z;cases z);have jP:=s1 _ _ hm;obtain⟨R0,o0,r0⟩:∃R,Own H m H1 R/\R m 2:=⟨λa v=>a=m/\v=2,⟨⟨λ_=>2,λa v z=>z.2.symm⟩,λa v z e=>(by rw[z.1,jP]at e;cases e),λa v z=>.inl z.1,λb z=>s1.free z⟩,rfl,rfl⟩
  have AS:V.str kd=.str "row"\/V.str kd=.str "name"\/V.str kd=.str "none":=by
   rcases m8 with e | e | e
   ·exact .inl (by rw[e])
   ·exact .inr (.inl (by rw[e]))
   ·exact .inr (.inr (by rw[e]))
  refine aA _ rfl (dQ pg rfl ⟨_,aB.of (s1 _ _ lH)⟩ (eN (n:=ph.length) (λi ys H'=>i<=ph.length/\∃ts:List (e_×e_×List e_),ys=(ts.map λx=>V.ref x.1)/\ts.length=i/\ah H1 H'/\(∀x∈ts,c9 H' x.1 CT kd 0 [] x.2.1 x.2.2)/\∃R,Own H m H' R/\(∀a v,R0 a v->R a v)/\∀j x,ts[j]?=a_ x->∀b∈x.1::x.2.1::x.2.2,R b (28+6*j)) (c8 (f7 (by exact w8))) ⟨aP _,⟨[],rfl,rfl,ah.refl _,λx hx=>(by cases hx),R0,o0,λ_ _ z=>z,λj x z=>(by simp at z)⟩⟩ ?_ ?_ ?_ ?_ ?_))
  ·intro i ys H' au;obtain⟨_,ts,rfl,rfl,_⟩:=au;rw[List.length_map];exact aw _
  ·intro i ys H' hi au;obtain⟨_,ts,_,_,s2,_⟩:=au;exact eO _ _ (aB.of ((s1.trans s2) _ _ lH)) (List.getElem?_eq_getElem hi)
  ·intro ys H' au;obtain⟨_,ts,_,_,s2,_⟩:=au;exact aA _ (aB.of ((s1.trans s2) _ _ lH)) (aw _)
  ·intro i ys H2 hi au z H3 ft;obtain⟨_,ts,rfl,rfl,s2,ht,R,o2,r2,r3⟩:=au;obtain⟨eH,eF⟩:=ft;subst eH;dsimp only[mf,jj];rw[if_pos rfl];refine vr rfl (dQ kd rfl m8 λH4 x q' qr T4 k4 lK=>?_);have s4:ah H3 H4:=λb o e=>k4 b o (by simp) e
   obtain⟨R',o4,i4,n4⟩:=o2.nxs (28+6*ts.length) (λb=>b∈x::q'::qr) (λb z=>s4.free z) lK (λb hb y=>by
    refine oE (T4.there b hb) λo e=>?_;rw[e]at y;cases y)
   refine⟨hi,⟨ts++[(x,q',qr)],by rw[List.map_append];rfl,by rw[List.length_append];rfl,s2.trans s4,λy hy=>?_,R',o4,λa v z=>i4 a v (r2 a v z),λj y hy b hb=>?_⟩⟩
   ·rcases List.mem_append.mp hy with hy | hy
    ·exact(ht y hy).keep (λb _ o e=>s4 b o e) λb xs e=>s4 b _ e
    ·rw[List.mem_singleton.mp hy];exact T4
   ·rcases Hf hy with hy | ⟨e1,e2⟩
    ·exact i4 _ _ (r3 j y hy b hb)
    ·subst e1;subst e2;exact n4 b hb
  intro ys H2 au;obtain⟨_,ts,rfl,pD,s2,ht,R1,o2,i1,r1⟩:=au;refine⟨by rw[List.length_map];exact c8 (f7 (by exact wu)),λlt nlt=>dX (o2.nw (o:=.lst (ts.map λx=>V.ref x.1)) 4 nlt) λH3 R2 e s3 bG o3 i2 r2=>?_⟩;rw[<-e];clear e;have jv:=s3 _ _ (s2 _ _ jP);have T3:=λx hx=>(ht x hx).keep (λb _ o e=>s3 b o e) λb xs e=>s3 b _ e;have K3:dI m H H3:=dI.of (s1.trans (s2.trans s3));refine vr rfl (kL m C dx ([]) rfl jv cM.cl cM.fQ qc (dX (ug "trays" (V.ref lt) jv (aw 0) o3) λqT H4 Fh e hf1 k4 lJ o4=>?_));rw[<-Fh,<-e];clear e;have K4:=K3.trans k4;refine aA _ rfl (vr rfl (kL m C dx qT rfl lJ cM.cl cM.program (by exact wb) (dX (ug "program" (V.ref pg) lJ hf1 o4) λpK H5 BF e hf2 k5 sP o5=>?_)));rw[<-BF,<-e];clear e;have K5:=K4.trans k5;refine aA _ rfl (vr rfl (kL m C dx pK rfl sP cM.cl cM.kind (by exact wb) (dX (ug "kind" (V.str kd) sP hf2 o5) λsu H6 zo e hf3 k6 xh o6=>?_)));rw[<-zo,<-e];clear e;have K6:=K5.trans k6;have DY:=K6.tup hm _ _ lH;refine aA _ rfl (dQ pg rfl ⟨_,aB.of DY⟩ (eN (n:=ph.length) (λi ys H'=>i<=ph.length/\ah H6 H'/\Paired (yg t H') ys (ps.take i)) (c8 (f7 (by exact w8))) (eT (aP _) (ah.refl _) .nil) ?_ ?_ ?_ ?_ ?_))
  ·intro i ys H' au;obtain⟨_,_,e⟩:=au;rw[r_ e,List.length_take];exact xl
  ·intro i ys H' hi au;obtain⟨_,s,_⟩:=au;exact eO _ _ (aB.of (s _ _ DY)) (List.getElem?_eq_getElem hi)
  ·intro ys H' au;obtain⟨_,s,_⟩:=au;exact aA _ (aB.of (s _ _ DY)) (aw _)
  ·intro i ys H' hi au z iE ft;obtain⟨_,s7,e⟩:=au;obtain⟨eH,eF⟩:=ft;subst eH;have hz:=eF _ (aB.of (s7 _ _ DY));refine ai (jg qN hz) λp hp hI=>oA (g.part p (List.mem_of_getElem? hp)) λg1 g2=>?_;dsimp only[mf,jj];rw[if_pos rfl];refine vr rfl (⟨z,p,rfl,((hI.keep (K6.tup hm)).keep λb xs e=>s7 _ _ e),g1,g2,(λH8 b us s8 nb hb gE=>⟨hi,s7.trans s8,?_⟩)⟩);rw[List.take_add_one,hp];exact F4 ⟨b,us,rfl,hb,gE⟩ (Paired.b9 e λ_ _ q=>q.keep (λb xs e=>s8 _ _ e) λb C dx fs e _=>s8 _ _ e)
  intro ys H7 au;obtain⟨_,s7,e7⟩:=au;have ahT:=r_ e7;rw[List.length_take]at ahT;rw[List.take_of_length_le li]at e7;refine⟨c8 (f7 li),λr7 nr7=>⟨r7,ys,rfl,.inl ⟨ae.of ao,λst yX=>?_⟩⟩⟩;have s8:ah H7 (upd (upd H7 r7 (.lst ys)) st (.tup ys)):=aE (aE (ah.refl _) nr7) yX;have dv:upd (upd H7 r7 (.lst ys)) st (.tup ys) st=a_ (.tup ys):=ao;generalize upd (upd H7 r7 (.lst ys)) st (.tup ys)=H8 at s8 dv ⊢;have hs8:Paired (yg t H8) ys ps:=Paired.b9 e7 λ_ _ q=>q.keep (λb xs e=>s8 _ _ e) λb C dx fs e _=>s8 _ _ e;have wJ:=s7.trans s8;have uV:=wJ _ _ xh;have o8:=o6.keep (λb z=>wJ.free z);have K8:=K6.trans (dI.of wJ);refine vr rfl (kL m C dx su rfl uV cM.cl cM.steps (by exact wb) (dX (ug "steps" (V.ref st) uV hf3 o8) λfs4 H9 zl e hf4 k9 E5 o9=>?_));rw[<-zl,<-e];clear e;have K9:=K8.trans k9;have ahG:=K9.tup hm _ _ lH;refine Pk (ps:=ps) 6 rfl rfl ahG eL hle E5 cM.cl cM.places hf4 qc o9 λpl BO Wm R3 zk hf5 wt gpl Vo o11 i10 UX=>?_;have WI:=K9.trans Vo;have agp:=WI.tup hm _ _ lH;refine Pk (ps:=ps) 8 rfl rfl agp eL hle wt cM.cl cM.counts hf5 qc o11 λct Mz Wl R4 xu hf6 Tt VW Vn o13 i12 UW=>?_;have WH:=WI.trans Vn;have JV:=WH.tup hm _ _ lH;refine aA _ rfl (dQ pg rfl ⟨_,aB.of JV⟩ (eN (n:=ph.length) (λi ys H'=>i<=ph.length/\∃rs:List e_,ys=rs.map V.ref/\rs.length=i/\ah Mz H'/\(∀a∈rs,H' a=a_ (.lst (([0,0,0,0]:List Int).map V.int)))/\∃R,Own H m H' R/\(∀a v,R4 a v->R a v)/\∀(j:Nat) a,rs[j]?=a_ a->R a (24+6*j)) (c8 (f7 (by exact w8))) ⟨aP _,⟨[],rfl,rfl,ah.refl _,λx hx=>(by cases hx),R4,o13,λ_ _ z=>z,λj x z=>(by simp at z)⟩⟩ ?_ ?_ ?_ ?_ ?_))
  ·intro i ys H' au;obtain⟨_,rs,rfl,rfl,_⟩:=au;rw[List.length_map];exact aw _
  ·intro i ys H' hi au;obtain⟨_,rs,_,_,s,_⟩:=au;exact eO _ _ (aB.of (s _ _ JV)) (List.getElem?_eq_getElem hi)
  ·intro ys H' au;obtain⟨_,rs,_,_,s,_⟩:=au;exact aA _ (aB.of (s _ _ JV)) (aw _)
  ·intro i ys H' hi au z iE ft;obtain⟨_,rs,rfl,rfl,s,Be,R,oR,iR,Li⟩:=au;obtain⟨eH,eF⟩:=ft;subst eH;dsimp only[mf,jj];rw[if_pos rfl];refine⟨qc,λy ny=>⟨y,4,_,rfl,rfl,ao,qc,qc,qc,λx nx=>?_⟩⟩;have sy:ah iE (upd iE y (.lst [.int 0])):=aE (ah.refl _) ny;have oy:=oR.keep (λb z=>sy.free z);refine aO (oy.nx (o:=.lst (([0,0,0,0]:List Int).map V.int)) (24+6*rs.length) nx) λR' o' i' r'=>?_;have sx:ah iE (upd (upd iE y (.lst [.int 0])) x (.lst (([0,0,0,0]:List Int).map V.int))):=aE sy nx;have hx:upd (upd iE y (.lst [.int 0])) x (.lst (([0,0,0,0]:List Int).map V.int)) x=a_ (.lst (([0,0,0,0]:List Int).map V.int)):=ao;refine⟨hi,⟨rs++[x],by rw[List.map_append];rfl,by rw[List.length_append];rfl,s.trans sx,λy hy=>?_,R',o',λa v z=>i' a v (iR a v z),λj y hy=>?_⟩⟩
   ·rcases List.mem_append.mp hy with hy | hy
    ·exact sx _ _ (Be y hy)
    ·rw[List.mem_singleton.mp hy];exact hx
   ·rcases Hf hy with hy | ⟨e1,e2⟩
    ·exact i' _ _ (Li j y hy)
    ·subst e1;subst e2;exact r'
  intro ys xA au;obtain⟨_,rs,rfl,ajd,i9,Be,R5,o14,i14,UU⟩:=au;refine⟨by rw[List.length_map];exact c8 (f7 (by exact wu)),λrg nrg=>dX (o14.nw (o:=.lst (rs.map V.ref)) 10 nrg) λH15 R6 e qH di o15 i15 UT=>?_⟩;rw[<-e];clear e;have D0:=qH _ _ (i9 _ _ Tt);have ahC:=λa ha=>qH _ _ (Be a ha);have K15:=WH.trans (dI.of (i9.trans qH));refine vr rfl (kL m C dx Wl rfl D0 cM.cl cM.gg (by exact wb) (dX (ug "regs" (V.ref rg) D0 hf6 o15) λWk xy sX e hf7 Vm ahQ o16=>?_));rw[<-sX,<-e];clear e;have K16:=K15.trans Vm;refine⟨qc,λy ny=>⟨y,12,_,rfl,rfl,ao,qc,qc,qc,λce U9=>?_⟩⟩;have sy:ah xy (upd xy y (.lst [.int 0])):=aE (ah.refl _) ny;have oy:=o16.keep (λb z=>sy.free z);refine aO (oy.nx (o:=.lst ((List.replicate 12 (0:Int)).map V.int)) 12 U9) λR7 UY i17 US=>?_;have Ez:ah xy (upd (upd xy y (.lst [.int 0])) ce (.lst ((List.replicate 12 (0:Int)).map V.int))):=aE sy U9;have uZ:upd (upd xy y (.lst [.int 0])) ce (.lst ((List.replicate 12 (0:Int)).map V.int)) ce=a_ (.lst ((List.replicate 12 (0:Int)).map V.int)):=ao;rw[show (List.replicate (12:Int).toNat [V.int 0]).flatten=(List.replicate 12 (0:Int)).map V.int from rfl];generalize upd (upd xy y (.lst [.int 0])) ce (.lst ((List.replicate 12 (0:Int)).map V.int))=H17 at Ez uZ UY ⊢;have Kw:=Ez _ _ ahQ;have K17:=K16.trans (dI.of Ez);refine vr rfl (kL m C dx Wk rfl Kw cM.cl cM.cells (by exact wb) (dX (ug "cells" (V.ref ce) Kw hf7 UY) λfs8 H18 qU e hf8 Vl ahP o18=>?_));rw[<-qU,<-e];clear e;have K18:=K17.trans Vl;refine⟨qc,λac nac=>dX (o18.nw (o:=.lst []) 14 nac) λH19 R8 e Lf dN o19 i19 UR=>?_⟩;rw[<-e];clear e;have Kv:=Lf _ _ ahP;have K19:=K18.trans (dI.of Lf);refine vr rfl (kL m C dx fs8 rfl Kv cM.cl cM.iN (by exact wb) (dX (ug "acts" (V.ref ac) Kv hf8 o19) λfs9 H20 pM e hf9 Vk ahO o20=>?_));rw[<-pM,<-e];clear e;have K20:=K19.trans Vk;refine⟨12,rfl,qc,qc,?_⟩;rw[show (12:Int).toNat=12 from rfl];refine eN (n:=12) (λi ys H'=>i<=12/\∃rs:List e_,ys=rs.map V.ref/\rs.length=i/\ah H20 H'/\(∀a∈rs,H' a=a_ (.lst (([]:List Int).map V.int)))/\∃R,Own H m H' R/\(∀a v,R8 a v->R a v)/\∀(j:Nat) a,rs[j]?=a_ a->R a (26+6*j)) (c8 (f7 li)) ⟨aP _,⟨[],rfl,rfl,ah.refl _,λx hx=>(by cases hx),R8,o20,λ_ _ z=>z,λj x z=>(by simp at z)⟩⟩ ?_ ?_ ?_ ?_ ?_
  ·intro i ys H' au;obtain⟨_,rs,rfl,rfl,_⟩:=au;rw[List.length_map];exact aw _
  ·intro i ys H' hi au;obtain⟨_,rs,_,_,s,_⟩:=au;exact hi
  ·intro ys H' au;obtain⟨_,rs,_,_,s,_⟩:=au;exact aw _
  ·intro i ys H' hi au z iE ft;obtain⟨_,rs,rfl,rfl,s,Be,R,oR,iR,Li⟩:=au;obtain⟨eH,eF⟩:=ft;subst eH;dsimp only[mf,jj];rw[if_pos rfl];refine⟨qc,λx nx=>aO (oR.nx (o:=.lst (([]:List Int).map V.int)) (26+6*rs.length) nx) λR' o' i' r'=>?_⟩;have sx:ah iE (upd iE x (.lst (([]:List Int).map V.int))):=aE (ah.refl _) nx;have hx:upd iE x (.lst (([]:List Int).map V.int)) x=a_ (.lst (([]:List Int).map V.int)):=ao;refine⟨hi,⟨rs++[x],by rw[List.map_append];rfl,by rw[List.length_append];rfl,s.trans sx,λy hy=>?_,R',o',λa v z=>i' a v (iR a v z),λj y hy=>?_⟩⟩
   ·rcases List.mem_append.mp hy with hy | hy
    ·exact sx _ _ (Be y hy)
    ·rw[List.mem_singleton.mp hy];exact hx
   ·rcases Hf hy with hy | ⟨e1,e2⟩
    ·exact i' _ _ (Li j y hy)
    ·subst e1;subst e2;exact r'
  intro ys H21 au;obtain⟨_,cs,rfl,ahU,Ld,pI,R9,o21,i21,UQ⟩:=au;refine⟨by rw[List.length_map];exact c8 (f7 (by exact w6)),λcm ncm=>dX (o21.nw (o:=.lst (cs.map V.ref)) 16 ncm) λH22 fu e Ey zg o22 i22 UO=>?_⟩;rw[<-e];clear e;have DZ:=Ey _ _ (Ld _ _ ahO);have ah0:=λa ha=>Ey _ _ (pI a ha);have K22:=K20.trans (dI.of (Ld.trans Ey));refine vr rfl (kL m C dx fs9 rfl DZ cM.cl cM.jX (by exact wb) (dX (ug "comers" (V.ref cm) DZ hf9 o22) λTK Fn nO e ajh EK ahN pj=>?_));rw[<-nO,<-e];clear e;have WG:=K22.trans EK;have n20:=(dI.of (m:=m) (Ld.trans Ey)).trans EK;have Va:=Vk.trans n20;have n18:=(dI.of (m:=m) Lf).trans Va;have Vb:=Vl.trans n18;have n16:=(dI.of (m:=m) Ez).trans Vb;have A9:=Vm.trans n16;have Vc:=(dI.of (m:=m) (i9.trans qH)).trans A9;have Vd:=Vn.trans Vc;have n9:=Vo.trans Vd;have n8:=k9.trans n9;have n6:=(dI.of (m:=m) wJ).trans n8;have n3:=k4.trans (k5.trans (k6.trans n6));have j9:=i22;have j8:∀a v,R8 a v->fu a v:=λa v z=>j9 _ _ (i21 _ _ z);have j7:∀a v,R7 a v->fu a v:=λa v z=>j8 _ _ (i19 _ _ z);have j6:∀a v,R6 a v->fu a v:=λa v z=>j7 _ _ (i17 _ _ z);have j5:∀a v,R5 a v->fu a v:=λa v z=>j6 _ _ (i15 _ _ z);have j4:∀a v,R4 a v->fu a v:=λa v z=>j5 _ _ (i14 _ _ z);have j3:∀a v,R3 a v->fu a v:=λa v z=>j4 _ _ (i12 _ _ z);have j2:∀a v,R2 a v->fu a v:=λa v z=>j3 _ _ (i10 _ _ z);have j1:∀a v,R1 a v->fu a v:=λa v z=>j2 _ _ (i2 _ _ z);have j0:∀a v,R0 a v->fu a v:=λa v z=>j1 _ _ (i1 _ _ z);refine oE pj.l λlab nN=>?_;have lm:=nN _ _ (j0 _ _ r0);have tk:=bJ (bJ (oG Fh) BF dk) zo dk;have ahy:ts.length=ps.length:=by exact wo
  have iB:rs.length=ps.length:=by exact wo
  have no:∀x∈Rg,TK.lookup x=none:=by
   intro x hx
   have n:∀y∈(["trays","program","kind","steps","places","counts","regs","cells","acts","comers"]:List Str),x≠y:=by
    intro y hy e;subst e
    revert hx
    revert x
    decide +kernel
   have hn:([]:List (Str×V)).lookup x=none:=rfl;exact bJ (bJ (bJ (bJ (bJ (bJ (bJ (bJ (bJ (bJ hn Fh (n _ (by simp))) BF (n _ (by simp))) zo (n _ (by simp))) zl (n _ (by simp))) zk (n _ (by simp))) xu (n _ (by simp))) sX (n _ (by simp))) qU (n _ (by simp))) pM (n _ (by simp))) nO (n _ (by simp))
  have M:aX t C CT Fn m ⟨lt,ts,pg,st,pl,ct,rg,rs,ce,ac,cm,cs⟩ (yv kd ps):=by
   refine⟨⟨dx,TK,ahN,⟨bJ (bJ (bJ (bJ (bJ (bJ (bJ (bJ (bJ (oG Fh) BF dk) zo dk) zl dk) zk dk) xu dk) sX dk) qU dk) pM dk) nO dk,bJ (bJ (bJ (bJ (bJ (bJ (bJ (bJ (oG BF) zo dk) zl dk) zk dk) xu dk) sX dk) qU dk) pM dk) nO dk,bJ (bJ (bJ (bJ (bJ (bJ (bJ (oG zo) zl dk) zk dk) xu dk) sX dk) qU dk) pM dk) nO dk,bJ (bJ (bJ (bJ (bJ (bJ (oG zl) zk dk) xu dk) sX dk) qU dk) pM dk) nO dk,bJ (bJ (bJ (bJ (bJ (oG zk) xu dk) sX dk) qU dk) pM dk) nO dk,bJ (bJ (bJ (bJ (oG xu) sX dk) qU dk) pM dk) nO dk,bJ (bJ (bJ (oG sX) qU dk) pM dk) nO dk,bJ (bJ (oG qU) pM dk) nO dk,bJ (oG pM) nO dk,oG nO,no,by exact w4⟩⟩,n3.lst jv bG,?_,hP.keep (WG.tup hm),⟨ys,n8.tup uV _ _ dv,?_⟩,?_,?_,A9.lst D0 di,?_,Vb.lst Kw uZ,⟨[],Va.lst Kv dN,.nil⟩,EK.lst DZ zg,?_⟩
   ·refine F5 ahy λx hx=>(T3 x hx).keep (λb hb o e=>n3.k b o (λz=>?_) e) (n3.tup jv);refine oE (List.getElem?_of_mem hx) λj hj=>?_;have:=nN _ _ (j1 _ _ (r1 j x hj b hb));rw[z,lm]at this;exact wk
   ·refine Paired.b9 hs8 λ_ _ q=>q.keep (n8.tup uV) λb C' BM lM e h=>n8.k b _ (λz=>?_) e;obtain⟨x,us,v,e1,e2⟩:=h;rw[z,uV]at e;cases e;rw[e2,Al "trays" dk]at tk;cases tk
   ·have h:=Vd.lst wt gpl;rw[h];show _=a_ (HO.lst ((ps.map λ_=>k0).map λk=>V.int (k.pl:Nat)));rw[List.map_map];rfl
   ·have h:=Vc.lst Tt VW;rw[h];show _=a_ (HO.lst ((ps.map λ_=>k0).map λk=>V.int (k.ct:Nat)));rw[List.map_map];rfl
   ·exact F5 (F:=λa (k:Ck)=>Fn a=a_ (.lst (k.rg.map V.int))) (y:=k0) iB λa ha=>A9.lst D0 (ahC a ha)
   ·exact NR (F:=λa (o:List Int)=>Fn a=a_ (.lst (o.map V.int))) (y:=[]) ahU λa ha=>EK.lst DZ (ah0 a ha)
  have L:jq lab m ⟨lt,ts,pg,st,pl,ct,rg,rs,ce,ac,cm,cs⟩:=⟨lm,nN _ _ (j2 _ _ r2),nN _ _ (j3 _ _ UX),nN _ _ (j4 _ _ UW),nN _ _ (j6 _ _ UT),nN _ _ (j7 _ _ US),nN _ _ (j8 _ _ UR),nN _ _ UO,λi a z=>nN _ _ (j5 _ _ (UU i a z)),λi a z=>nN _ _ (j9 _ _ (UQ i a z)),λi x z b hb=>nN _ _ (j1 _ _ (r1 i x z b hb))⟩;refine q Fn _ lab M L rfl WG λb hb=>?_;cases hb with
  | m=>exact .inl rfl
  | lt=>exact pj.f _ _ (j2 _ _ r2)
  | pl=>exact pj.f _ _ (j3 _ _ UX)
  | ct=>exact pj.f _ _ (j4 _ _ UW)
  | rg=>exact pj.f _ _ (j6 _ _ UT)
  | ce=>exact pj.f _ _ (j7 _ _ US)
  | ac=>exact pj.f _ _ (j8 _ _ UR)
  | cm=>exact pj.f _ _ UO
  | rs h=>
   refine oE (List.getElem?_of_mem h) λj hj=>?_;exact pj.f _ _ (j5 _ _ (UU j _ hj))
  | cs h=>
   refine oE (List.getElem?_of_mem h) λj hj=>?_;exact pj.f _ _ (j9 _ _ (UQ j _ hj))
  | ts h h2=>
   refine oE (List.getElem?_of_mem h) λj hj=>?_;exact pj.f _ _ (j1 _ _ (r1 j _ hj _ h2))
end
structure iw(n:Nat)(S:Mc):Prop where
 wf:gC S
 ac:S.ac.length<=n
 ov:∀o∈S.ov,o.length<=n
theorem iw.T5{n:Nat}(W:iw n S)(h:n<=16000):A0 S:=λo ho=>cx (W.ov o ho) h
structure sF(n:Nat)(S S':Mc)(c:Nat)(k k':Ck):Prop where
 ck:S'.ck=S.ck.set c k'
 ps:S'.ps=S.ps
 kd:S'.kd=S.kd
 rg:k'.rg.length=k.rg.length
 bd:S'.bd.length=S.bd.length
 Ee:S'.ov.length=S.ov.length
 El:S.ac.length<=S'.ac.length
 Ek:S'.ac.length<=S.ac.length+1
 es:k'.es.length<=S'.ac.length
 ov:∀o∈S'.ov,o.length<=n+1
theorem ab1{n:Nat}(W:iw n S)(i:Nat):(S.ov.getD i []).length<=n:=by
 cases h:S.ov[i]? with
 | none=>rw[List.getD_eq_getElem?_getD,h];exact aP _
 | some o=>rw[List.getD_eq_getElem?_getD,h];exact W.ov o (List.mem_of_getElem? h)
theorem adl{n i:Nat}{d:Int}(W:iw n S):∀o∈S.ov.set i (S.ov.getD i []++[d]),o.length<=n+1:=by
 intro o ho;rcases List.mem_or_eq_of_mem_set ho with h | h
 ·exact vk (W.ov o h)
 ·rw[h,List.length_append];exact qX (ab1 W i)
theorem Jz{n:Nat}(W:iw n S):∀o∈S.ov,o.length<=n+1:=λo ho=>vk (W.ov o ho)
theorem aa3(es:List Ent)(n:Int):(gR es n).length<=es.length:=List.length_eraseP_le
theorem Oi{α:Type}{l:List α}{c:Nat}{k:α}(h:l[c]?=a_ k):l.set c k=l:=by
 refine oE (List.getElem?_eq_some_iff.mp h) λhc e=>?_;rw[<-e];exact List.set_getElem_self hc
section
variable{S:Mc}{n c:Nat}{k:Ck}
theorem Pm(W:iw n S)(hk:S.ck[c]?=a_ k):sF n S S c k k:=⟨(Oi hk).symm,rfl,rfl,rfl,rfl,rfl,aw _,kJ _,W.wf.es k (List.mem_of_getElem? hk),Jz W⟩
theorem acC(h:sF n S S' c k k')(hc:c<S.ck.length)(r:Nat)(v:Int):sF n S (nJ S' c r v) c k { k' with rg:=k'.rg.set r v }:=by
 have e:S'.ck[c]?=a_ k':=by rw[h.ck];exact List.getElem?_set_self hc
 rw[ada e];exact⟨by show S'.ck.set c _=_;rw[h.ck,List.set_set],h.ps,h.kd,by show (k'.rg.set r v).length=_;rw[List.length_set];exact h.rg,h.bd,h.Ee,h.El,h.Ek,h.es,h.ov⟩
theorem OE(W:iw n S)(h:sF n S S' c k k')(eW:S'.ov=S.ov)(hc:c<S.ck.length)(i:Nat):∃yY,sF n S (iI S' c i) c k yY/\yY.pl=k'.pl/\yY.ct=k'.ct:=by
 have e:S'.ck[c]?=a_ k':=by rw[h.ck];exact List.getElem?_set_self hc
 unfold iI;rw[e];dsimp only;cases (cw k'.es i).head? with
 | none=>exact⟨k',h,rfl,rfl⟩
 | some x=>
  refine dQ ({ k' with es:=gR k'.es i }) ⟨by show S'.ck.set c _=_;rw[h.ck,List.set_set],h.ps,h.kd,h.rg,?_,?_,h.El,h.Ek,cx (aa3 _ _) h.es,?_⟩ rfl rfl
  ·show (S'.bd.set i x.num).length=_;rw[List.length_set];exact h.bd
  ·show (S'.ov.set i (S'.ov.getD i []++[x.d])).length=_;rw[List.length_set];exact h.Ee
  ·show ∀o∈S'.ov.set i (S'.ov.getD i []++[x.d]),o.length<=n+1;rw[eW];exact adl W
theorem Qp{sz:Nat}(W:iw n S)(g:gf sz s)(hk:S.ck[c]?=a_ k):∃k',sF n S (dm S c s) c k k'/\k'.pl=k.pl/\k'.ct=k.ct:=by
 have hc:c<S.ck.length:=(List.getElem?_eq_some_iff.mp hk).1;have f0:=Pm W hk;cases g with
 | set i r h1 h2=>
  have e:dm S c ("set",[i,r])=setM S c i r:=by kernel_rfl
  rw[e];unfold setM;rw[hk];dsimp only
  have f1:sF n S (jG (uq S c i k (k.rg.getD r 0)) ⟨"set",c,i,b_,a_ (k.rg.getD r 0),b_⟩) c k { k with tn:=k.tn+1,es:=k.es++[⟨k.tn,i,k.rg.getD r 0,S.ac.length⟩] }:=by
   refine⟨rfl,rfl,rfl,rfl,rfl,rfl,?_,?_,?_,λo ho=>Jz W o ho⟩
   ·show S.ac.length<=(S.ac++[_]).length;rw[List.length_append];exact FE _ _
   ·show (S.ac++[_]).length<=_;rw[List.length_append];exact aw _
   ·show (k.es++[_]).length<=(S.ac++[_]).length;rw[List.length_append,List.length_append];exact qX (W.wf.es k (List.mem_of_getElem? hk))
  split
  ·exact aO (OE W f1 rfl hc i) λyY f2 e1 e2=>dQ yY f2 e1 e2
  ·exact dQ _ f1 rfl rfl
 | look r i h1 h2=>
  rw[HE hk]
  have f1:sF n S (jG S ⟨"look",c,i,a_ (cN S k i).1,b_,(cN S k i).2⟩) c k k:=by
   refine⟨f0.ck,rfl,rfl,rfl,rfl,rfl,?_,?_,?_,λo ho=>Jz W o ho⟩
   ·show S.ac.length<=(S.ac++[_]).length;rw[List.length_append];exact FE _ _
   ·show (S.ac++[_]).length<=_;rw[List.length_append];exact aw _
   ·show k.es.length<=(S.ac++[_]).length;rw[List.length_append];exact vk (W.wf.es k (List.mem_of_getElem? hk))
  exact dQ _ (acC f1 hc _ _) rfl rfl
 | skip r q h1 h2 h3=>
  have e:dm S c ("skip",[r,q])=S:=by kernel_rfl
  rw[e];exact dQ k f0 rfl rfl
theorem Rm(W:iw n S)(hn:n<15000)(h:sF n S S' c k k')(hk:S.ck[c]?=a_ k)(eL:∀p,S.ps[c]?=a_ p->k'.pl<=p.length):iw (n+1) S':=by
 have dN:=W.ac;have h2:=h.Ek;have h1:=h.El;have hc:c<S.ck.length:=(List.getElem?_eq_some_iff.mp hk).1;refine⟨⟨by rw[h.ps];exact W.wf.good,by rw[h.ck,List.length_set,h.ps];exact W.wf.len,by rw[h.bd];exact W.wf.bd,by rw[h.Ee];exact W.wf.ov,?_,?_,li,?_⟩,li,h.ov⟩
 ·intro x hx;rw[h.ck]at hx;rcases List.mem_or_eq_of_mem_set hx with y | y
  ·exact W.wf.rg x y
  ·rw[y,h.rg];exact W.wf.rg k (List.mem_of_getElem? hk)
 ·intro i x p hx hp;rw[h.ps]at hp;rw[h.ck]at hx
  by_cases e:c=i
  ·subst e;rw[List.getElem?_set_self hc]at hx;cases hx;exact eL p hp
  ·rw[List.getElem?_set_ne e]at hx;exact W.wf.pl i x p hx hp
 ·intro x hx;rw[h.ck]at hx;rcases List.mem_or_eq_of_mem_set hx with y | y
  ·exact cx (W.wf.es x y) h1
  ·rw[y];exact h.es
theorem ZN{s:Tl}{rg:List Int}{pl:Nat}{p:Pt}(g:gf p.length s)(h:pl<p.length):gy s rg pl<=p.length:=by
 unfold gy
 split
 ·rename_i hs
  cases g with
  | skip r q h1 h2 h3=>exact h2
  | set=>exact absurd (show ("set" : Str) = "skip" from hs.1) dk
  | look=>exact absurd (show ("look" : Str) = "skip" from hs.1) dk
 ·exact h
theorem Qh(W:iw n S)(hn:n<15000)(h:mv∈jA S):iw (n+1) (iL S mv):=by
 rcases xU h with ⟨c,rfl,hc,wq⟩ | ⟨c,k,i,rfl,hk,lK⟩
 ·refine nE (Cz W.wf hc wq) λk p s _ hk aa=>dg aa λhp hs _=>cC (W.wf.part hk) λp' uU _ _ hg=>?_;have ep:p'=p:=by rw[hp]at uU;exact(cu uU).symm
  subst ep;have g:=hg s (List.mem_of_getElem? hs);refine aO (Qp W g hk) λk' f e1 e2=>?_
  have e:iL S ("do",[(c:Int)])=qw (dm S c s) c s:=by
   unfold iL;rw[if_pos rfl];show oX S ((c:Int)).toNat=_;rw[fZ];unfold oX;rw[hk,hp];dsimp only;rw[hs]
  rw[e];have ec:(dm S c s).ck[c]?=a_ k':=by rw[f.ck];exact List.getElem?_set_self hc
  have eL:k.pl<p'.length:=(List.getElem?_eq_some_iff.mp hs).1;refine Rm (k':={ k' with pl:=gy s k'.rg k'.pl,ct:=k'.ct+1 }) W hn ?_ hk λq hq=>?_
  ·unfold qw;rw[ec];exact⟨by show (dm S c s).ck.set c _=_;rw[f.ck,List.set_set],f.ps,f.kd,f.rg,f.bd,f.Ee,f.El,f.Ek,f.es,f.ov⟩
  ·rw[hp]at hq;cases hq;exact ZN g (by rw[e1];exact eL)
 ·have hc:c<S.ck.length:=(List.getElem?_eq_some_iff.mp hk).1
  have e:iL S ("carry",[(c:Int),i])=iI S c i.toNat:=by
   unfold iL;rw[if_neg (show ¬("carry" : Str) = "do" from dk)];show iI S ((c:Int)).toNat _=_;rw[fZ];rfl
  rw[e];refine aO (OE W (Pm W hk) rfl hc i.toNat) λyY f e1 e2=>?_;exact Rm W hn f hk λp hp=>by rw[e1];exact W.wf.pl c k p hk hp
end
theorem adw(g:yp ps):iw 0 (yv kd ps):=by
 refine⟨⟨g,by show (ps.map _).length=_;rw[List.length_map];rfl,by show (List.replicate 12 (0:Int)).length=12;rfl,by show (List.replicate 12 ([]:List Int)).length=12;rfl,?_,?_,aP _,?_⟩,aw _,?_⟩
 ·intro k hk;refine ai (List.mem_map.mp hk) λ_ _ aa=>?_;subst aa;rfl
 ·intro c k p hk hp;have:k∈(ps.map λ_=>k0):=List.mem_of_getElem? hk;refine ai (List.mem_map.mp this) λ_ _ aa=>?_;subst aa;exact aP _
 ·intro k hk;refine ai (List.mem_map.mp hk) λ_ _ aa=>?_;subst aa;exact aw _
 ·intro o ho;rw[List.eq_of_mem_replicate ho];exact aw _
def iq:Nat->List (List Int)->List (Int×Int)
 | _,[]=>[]
 | n,o::r=>(o.map λd=>((n:Int),d))++iq (n+1) r
def c7(k:Ck):List (Int×Int):=k.es.map λe=>(e.n,e.d)
def mq(a:Act)(i:Nat):List (Int×Int):=if a.k = "look" then [] else [((a.n:Int),(i:Int))]
def jm:Nat->List Act->List (Int×Int)
 | _,[]=>[]
 | i,a::r=>mq a i++jm (i+1) r
def qB(S:Mc):List (Int×Int):=iq 0 S.ov++S.ck.flatMap c7
theorem Qn(a:Act):∀(l:List Act) (i:Nat),jm i (l++[a])=jm i l++mq a (i+l.length)
 | [],i=>by simp[jm]
 | b::l,i=>by
  show mq b i++jm (i+1) (l++[a])=(mq b i++jm (i+1) l)++_;rw[Qn a l (i+1),List.append_assoc,List.length_cons,show i+1+l.length=i+(l.length+1) by lia]
theorem Pg{x:Int×Int}{i:Nat}:x∈mq a i↔a.k ≠ "look"/\x=((a.n:Int),(i:Int)):=by
 unfold mq
 split <;> simp_all
theorem ye{x:Int×Int}:∀{l:List Act} {i:Nat},x∈jm i l↔∃(j:Nat) (a:Act),l[j]?=a_ a/\a.k ≠ "look"/\x=((a.n:Int),((i+j:Nat):Int))
 | [],i=>by simp[jm]
 | b::l,i=>by
  show x∈mq b i++jm (i+1) l↔_;rw[List.mem_append,Pg,ye];constructor
  ·rintro(⟨h1,h2⟩ | ⟨j,a,h1,h2,h3⟩)
   ·exact dZ 0 b rfl h1 h2
   ·exact dZ (j+1) a h1 h2 (by rw[h3,show i+1+j=i+(j+1) by lia])
  ·rintro⟨j,a,h1,h2,h3⟩;cases j with
   | zero=>cases h1;exact .inl ⟨h2,h3⟩
   | succ j=>exact .inr ⟨j,a,h1,h2,by rw[h3,show i+1+j=i+(j+1) by omega]⟩
theorem Rk:∀(l:List Act) (i:Nat),(jm i l).Nodup
 | [],_=>List.nodup_nil
 | b::l,i=>by
  show (mq b i++jm (i+1) l).Nodup;refine List.nodup_append.mpr (eT ?_ (Rk l _) λx hx y hy e=>?_)
  ·unfold mq
   split <;> simp
  ·subst e;refine dC (ye.mp hy) λj a _ _ h=>?_;rw[(Pg.mp hx).2]at h;injection h with _ h
   lia
theorem yd{x:Int×Int}:∀{l:List (List Int)} {i:Nat},x∈iq i l↔∃(n:Nat) (o:List Int) (d:Int),l[n]?=a_ o/\d∈o/\x=(((i+n:Nat):Int),d)
 | [],i=>by simp[iq]
 | b::l,i=>by
  show x∈_++iq (i+1) l↔_;rw[List.mem_append,List.mem_map,yd];constructor
  ·rintro(⟨d,h1,h2⟩ | ⟨n,o,d,h1,h2,h3⟩)
   ·exact⟨0,b,d,rfl,h1,h2.symm⟩
   ·exact⟨(n+1),o,d,h1,h2,(by rw[h3,show i+1+n=i+(n+1) by omega])⟩
  ·rintro⟨n,o,d,h1,h2,h3⟩;cases n with
   | zero=>cases h1;exact .inl ⟨d,h2,h3.symm⟩
   | succ n=>exact .inr ⟨n,o,d,h1,h2,by rw[h3,show i+1+n=i+(n+1) by omega]⟩
theorem Qa(d:Int):∀{l:List (List Int)} {n:Nat} (i:Nat),n<l.length->(iq i (l.set n (l.getD n []++[d]))).Perm (iq i l++[(((i+n:Nat):Int),d)])
 | [],_,_,h=>by simp at h
 | o::r,0,i,_=>by
  show ((o++[d]).map (λd=>((i:Int),d))++iq (i+1) r).Perm ((o.map (λd=>((i:Int),d))++iq (i+1) r)++[((i:Int),d)]);rw[List.map_append,List.append_assoc,List.append_assoc];exact List.Perm.append_left _ List.perm_append_comm
 | o::r,n+1,i,h=>by
  have ih:=Qa d (l:=r) (n:=n) (i+1) (by simpa using h);rw[show i+1+n=i+(n+1) by lia]at ih;show (_++iq (i+1) (r.set n (r.getD n []++[d]))).Perm ((_++iq (i+1) r)++_);rw[List.append_assoc];exact ih.append_left _
theorem Iq{k k':Ck}{x:Int×Int}(hp:(c7 k').Perm (c7 k++[x])):∀{l:List Ck} {c:Nat},l[c]?=a_ k->((l.set c k').flatMap c7).Perm (l.flatMap c7++[x])
 | [],_,h=>by simp at h
 | z::l,0,h=>by
  cases h;show (c7 k'++l.flatMap c7).Perm ((c7 k++l.flatMap c7)++[x]);refine(hp.append_right _).trans ?_;rw[List.append_assoc,List.append_assoc];exact List.Perm.append_left _ List.perm_append_comm
 | z::l,c+1,h=>by
  show (c7 z++(l.set c k').flatMap c7).Perm ((c7 z++l.flatMap c7)++[x]);rw[List.append_assoc];exact(Iq hp (l:=l) (c:=c) h).append_left _
theorem Qu{k k':Ck}(hp:c7 k'=c7 k):∀{l:List Ck} {c:Nat},l[c]?=a_ k->(l.set c k').flatMap c7=l.flatMap c7
 | [],_,h=>by simp at h
 | z::l,0,h=>by
  cases h;show c7 k'++l.flatMap c7=c7 k++l.flatMap c7;rw[hp]
 | z::l,c+1,h=>by
  show c7 z++(l.set c k').flatMap c7=c7 z++l.flatMap c7;rw[Qu hp (l:=l) (c:=c) h]
theorem ZF{n:Nat}(h:(cw es n).head?=a_ x):es.Perm (gR es n++[x]):=by
 have hm:=List.mem_of_mem_head? h;unfold cw at h hm;refine oA (List.mem_filter.mp hm) λh1 h2=>iY (List.exists_of_eraseP (p:=λe:Ent=>decide (e.n=(n:Int))) h1 h2) λa l1 l2 h3 h4 aa=>oA aa λh5 h6=>?_;unfold gR;rw[h6]
 have e:a=x:=by
  rw[h5,List.filter_append,List.filter_eq_nil_iff.mpr λb hb=>h3 b hb,List.nil_append,List.filter_cons_of_pos (p:=λe:Ent=>decide (e.n=(n:Int))) h4]at h;exact cu h
 subst e;rw[h5];exact List.perm_middle.trans (List.perm_append_comm (l₁:=[a]))
structure JR(m:Nat)(a:Act):Prop where
 c:a.c<m
 n:a.n<12
 k:a.k = "set"/\a.got=b_\/a.k = "look"/\a.got.isSome=c_
 s:a.k = "set"->a.seen=b_
structure dh(S:Mc):Prop where
 pm:(qB S).Perm (jm 0 S.ac)
 ok:∀a∈S.ac,JR S.ps.length a
 sn:∀a∈S.ac,∀d,a.seen=a_ d->((a.n:Int),d)∈jm 0 S.ac
section
variable{S:Mc}{c:Nat}{k:Ck}
theorem dh.ck(h:dh S)(hk:S.ck[c]?=a_ k)(e:k'.es=k.es):dh { S with ck:=S.ck.set c k' }:=
 ⟨by show (iq 0 S.ov++_).Perm _;rw[Qu (by unfold c7;rw[e]) hk];exact h.pm,h.ok,h.sn⟩
theorem dh.reg(h:dh S)(c r:Nat)(v:Int):dh (nJ S c r v):=by
 unfold nJ;cases e:S.ck[c]? with
 | none=>exact h
 | some k=>exact h.ck e rfl
theorem dh.gon(h:dh S)(c:Nat)(s:Tl):dh (qw S c s):=by
 unfold qw;cases e:S.ck[c]? with
 | none=>exact h
 | some k=>exact h.ck e rfl
theorem dh.carry(h:dh S){n:Nat}(hn:n<S.ov.length):dh (iI S c n):=by
 unfold iI;cases e:S.ck[c]? with
 | none=>exact h
 | some k=>
  dsimp only;cases q:(cw k.es n).head? with
  | none=>exact h
  | some x=>
   refine⟨?_,h.ok,h.sn⟩;show (iq 0 (S.ov.set n (S.ov.getD n []++[x.d]))++(S.ck.set c _).flatMap c7).Perm _;refine List.Perm.trans ?_ h.pm;refine((Qa x.d 0 hn).append_right _).trans ?_;unfold qB;rw[List.append_assoc];refine List.Perm.append_left _ (List.perm_append_comm.trans ?_);have hc:c<S.ck.length:=(List.getElem?_eq_some_iff.mp e).1
   have z:=Iq (k:={ k with es:=gR k.es n }) (k':=k) (x:=(x.n,x.d)) (l:=S.ck.set c { k with es:=gR k.es n }) (c:=c) (by
    unfold c7;exact(ZF q).map (λe:Ent=>(e.n,e.d)) |>.trans (by rw[List.map_append];exact List.Perm.refl _)) (List.getElem?_set_self hc)
   rw[List.set_set,Oi e,NP q]at z;rw[vm];exact z.symm
theorem dh.act(h:dh S)(jO:S'.ps=S.ps)(dN:S'.ac=S.ac++[a])(aD:JR S.ps.length a)(LG:∀d,a.seen=a_ d->((a.n:Int),d)∈qB S)(hp:(qB S').Perm (qB S++mq a S.ac.length)):dh S':=by
 have e:=Qn a S.ac 0;rw[vm]at e;refine⟨by rw[dN,e];exact hp.trans (h.pm.append_right _),λb hb=>?_,λb hb d hd=>?_⟩
 ·rw[dN]at hb;rw[jO];rcases List.mem_append.mp hb with q | q
  ·exact h.ok b q
  ·rw[List.mem_singleton.mp q];exact aD
 ·rw[dN]at hb ⊢;rw[e];refine List.mem_append_left _ ?_;rcases List.mem_append.mp hb with q | q
  ·exact h.sn b q d hd
  ·rw[List.mem_singleton.mp q]at hd ⊢;exact h.pm.mem_iff.mp (LG d hd)
theorem aaL{n:Nat}{d:Int}(h:(S.ov.getD n []).getLast?=a_ d):((n:Int),d)∈qB S:=by
 have hm:=List.mem_of_getLast? h;cases e:S.ov[n]? with
 | none=>rw[List.getD_eq_getElem?_getD,e]at hm;cases hm
 | some o=>
  rw[nD e]at hm;exact List.mem_append_left _ (yd.mpr (⟨n,o,d,e,hm,(by rw[vm])⟩))
theorem aaK{n:Nat}{d:Int}(hk:S.ck[c]?=a_ k)(h:(cN S k n).2=a_ d):((n:Int),d)∈qB S:=by
 unfold cN at h;cases e:yf k.es n with
 | none=>rw[e]at h;exact aaL h
 | some x=>
  rw[e]at h;unfold yf at e;have hm:=List.mem_of_getLast? e;unfold cw at hm;refine oA (List.mem_filter.mp hm) λh1 h2=>?_;have h3:=of_decide_eq_true h2;have h4:=cu h;refine List.mem_append_right _ (List.mem_flatMap.mpr (aA k (List.mem_of_getElem? hk) (List.mem_map.mpr (aA x h1 (by rw[h3,h4])))))
theorem dh.KZ{sz:Nat}(h:dh S)(W:gC S)(g:gf sz s)(hk:S.ck[c]?=a_ k):dh (dm S c s):=by
 have hc:c<S.ck.length:=(List.getElem?_eq_some_iff.mp hk).1;have VX:=W.len ▸ hc;cases g with
 | set i r h1 h2=>
  have e:dm S c ("set",[i,r])=setM S c i r:=by kernel_rfl
  rw[e];unfold setM;rw[hk];dsimp only
  have f1:dh (jG (uq S c i k (k.rg.getD r 0)) ⟨"set",c,i,b_,a_ (k.rg.getD r 0),b_⟩):=by
   refine h.act (a:=⟨"set",c,i,b_,a_ (k.rg.getD r 0),b_⟩) rfl rfl ⟨VX,h1,.inl ⟨rfl,rfl⟩,λ_=>rfl⟩ (λd z=>by cases z) ?_;show (iq 0 S.ov++(S.ck.set c _).flatMap c7).Perm ((iq 0 S.ov++S.ck.flatMap c7)++_);rw[List.append_assoc];refine(Iq ?_ hk).append_left _;show (List.map _ (k.es++[_])).Perm _;rw[List.map_append];exact List.Perm.refl _
  split
  ·exact f1.carry (by show i<S.ov.length;rw[W.ov];exact h1)
  ·exact f1
 | look r i h1 h2=>
  rw[HE hk];refine dh.reg (S:=jG S _) (h.act (a:=⟨"look",c,i,a_ (cN S k i).1,b_,(cN S k i).2⟩) rfl rfl ⟨VX,h2,.inr ⟨rfl,rfl⟩,λz=>absurd (show ("look" : Str) = "set" from z) dk⟩ (λd z=>aaK hk z) ?_) _ _ _;rw[show mq (⟨"look",c,i,a_ (cN S k i).1,b_,(cN S k i).2⟩:Act) S.ac.length=[] from if_pos rfl,List.append_nil];exact List.Perm.refl _
 | skip r q h1 h2 h3=>exact h
theorem dh.made{n:Nat}(h:dh S)(W:iw n S)(hE:∀k∈S.ck,jJ k.tn k.es)(hm:mv∈jA S):dh (iL S mv):=by
 rcases xU hm with ⟨c,rfl,hc,wq⟩ | ⟨c,k,i,rfl,hk,lK⟩
 ·refine nE (Cz W.wf hc wq) λk p s sz hk aa=>dg aa λhp hs g=>?_;unfold iL;rw[if_pos rfl];show dh (oX S ((c:Int)).toNat);rw[fZ];unfold oX;rw[hk,hp];dsimp only;rw[hs];exact(h.KZ W.wf g hk).gon c s
 ·unfold iL;rw[if_neg (show ¬("carry" : Str) = "do" from dk)];refine aO (Cg (hE k (List.mem_of_getElem? hk)) lK) λj hj aa _=>?_;subst aa;exact h.carry (by rw[W.wf.ov];exact hj)
end
theorem dh.new:dh (yv kd ps):=by
 refine⟨?_,λa ha=>(by cases ha),λa ha=>(by cases ha)⟩
 have e:(ps.map λ_=>k0).flatMap c7=[]:=List.flatMap_eq_nil_iff.mpr λk hk=>by
  refine ai (List.mem_map.mp hk) λ_ _ aa=>?_;subst aa;rfl
 show (iq 0 (List.replicate 12 [])++(ps.map λ_=>k0).flatMap c7).Perm [];rw[e];exact List.Perm.refl _
theorem ad1(hE:∀k∈S.ck,jJ k.tn k.es)(h:iU S=[]):∀k∈S.ck,k.es=[]:=by
 intro k hk;cases e:k.es with
 | nil=>rfl
 | cons x r=>
  exfalso;refine oE (List.getElem?_of_mem hk) λc hc=>?_
  have hw:x.n∈gH S.kd k.es:=by
   unfold gH
   split
   ·rw[e];simp
   ·exact B2 (hE k hk) (by rw[e];rfl)
  have:(("carry" : Str),[(c:Int),x.n])∈iU S:=List.mem_flatMap.mpr ⟨(k,c),List.mem_zipIdx_iff_getElem?.mpr hc,List.mem_map.mpr ⟨x.n,hw,rfl⟩⟩;rw[h]at this;cases this
structure mw(S:Mc):Prop where
 nd:∀(n:Nat) o,S.ov[n]?=a_ o->o.Nodup
 im:∀(n:Nat) o,S.ov[n]?=a_ o->∀d∈o,∃(j:Nat) (a:Act),d=(j:Int)/\S.ac[j]?=a_ a/\a.n=n
 sn:∀(i:Nat) a,S.ac[i]?=a_ a->∀d,a.seen=a_ d->∃(j:Nat) (o:List Int),d=(j:Int)/\j<S.ac.length/\S.ov[a.n]?=a_ o/\d∈o
 ok:∀(i:Nat) a,S.ac[i]?=a_ a->JR S.ps.length a
theorem ae3{l:List (List Int)}:∀{i:Nat},(iq i l).Nodup->∀(n:Nat) o,l[n]?=a_ o->o.Nodup:=by
 induction l with
 | nil=>intro i _ n o h;simp at h
 | cons b l ih=>
  intro i h n o ho;refine dg (List.nodup_append.mp (show (_++iq (i+1) l).Nodup from h)) λh1 h2 _=>?_;cases n with
  | zero=>
   cases ho;exact List.Pairwise.of_map (λd=>((i:Int),d)) (λa b z e=>z (by rw[e])) h1
  | succ n=>exact ih h2 n o ho
theorem dh.agN(h:dh S)(e0:∀k∈S.ck,k.es=[]):mw S:=by
 have e1:S.ck.flatMap c7=[]:=List.flatMap_eq_nil_iff.mpr λk hk=>by unfold c7;rw[e0 k hk];rfl
 have p:(iq 0 S.ov).Perm (jm 0 S.ac):=by
  have q:=h.pm;unfold qB at q;rw[e1,List.append_nil]at q;exact q
 refine⟨ae3 (p.nodup_iff.mpr (Rk _ _)),λn o ho d hd=>?_,λi a ha d hd=>?_,λi a ha=>h.ok a (List.mem_of_getElem? ha)⟩
 ·refine dC (ye.mp (p.mem_iff.mp (yd.mpr ⟨n,o,d,ho,hd,rfl⟩))) λj a h1 _ h3=>?_;injection h3 with h3 h4
  exact dZ j a (by rw[h4,vm]) h1 li
 ·have hg:=h.sn a (List.mem_of_getElem? ha) d hd;refine dC (ye.mp hg) λj b h1 _ h3=>iY (yd.mp (p.mem_iff.mpr hg)) λn o d' h4 h5 h6=>?_;injection h3 with _ h3
  injection h6 with h6 h7
  have:n=a.n:=li;subst this;exact⟨j,o,(by rw[h3,vm]),((List.getElem?_eq_some_iff.mp h1).1),h4,(h7 ▸ h5)⟩
def aiP(H:Hp)(v:V)(e:Ent):Prop:=∃p,v=.ref p/\H p=a_ (.tup [.int e.n,.int e.num,.int e.d])
theorem P0{n:Nat}(h:n<=3000):n<a9:=tm h qc
theorem Ae{k:Nat}(r:eJ k A):A.units+64<cLine:=by have:=r.un;lia
def my(l:List Int)(w:Str):List T3:=(l.zip l.tail).map λx=>(x.1,x.2,w)
def gA(S:Mc)(j:Nat):Option Nat:=S.ac[j]?.map Act.c
def jD(S:Mc)(c i:Nat):List Nat:=(List.range i).filter λj=>decide (gA S j=a_ c)
def yO(S:Mc)(c:Nat):List T3:=my ((jD S c S.ac.length).map λ(n:Nat)=>(n:Int)) "own"
def mj(S:Mc)(m:Nat):List T3:=(List.range m).flatMap (yO S)
def qh(S:Mc)(j:Nat):Option T3:=(S.ac[j]?.bind Act.seen).map λd=>(d,(j:Int),("seen" : Str))
def nF(S:Mc)(i:Nat):List T3:=(List.range i).filterMap (qh S)
def yN(S:Mc)(n:Nat):List T3:=my (S.ov.getD n []) "over"
def oM(S:Mc)(m:Nat):List T3:=(List.range m).flatMap (yN S)
def nextM(o:List Int)(s:Option Int):Option Int:=((b_::o.map a_).zip o).lookup s
def qf(S:Mc)(j:Nat)(a:Act):Option T3:=if a.k = "set" then b_ else (nextM (S.ov.getD a.n []) a.seen).bind λb=>if b=(j:Int) then b_ else a_ ((j:Int),b,("ahead" : Str))
def k8(S:Mc)(j:Nat):Option T3:=S.ac[j]?.bind (qf S j)
def oJ(S:Mc)(i:Nat):List T3:=(List.range i).filterMap (k8 S)
def iX(S:Mc):List T3:=mj S S.ps.length++nF S S.ac.length++oM S 12++oJ S S.ac.length
theorem K2:∀{l:List Nat},l.Pairwise (· < ·)->∀i j,(i,j)∈l.zip l.tail↔i∈l/\j∈l/\i<j/\∀k∈l,¬(i<k/\k<j)
 | [],_,i,j=>by simp
 | [x],_,i,j=>by
  simp only[List.tail_cons,List.zip_nil_right,List.not_mem_nil,List.mem_singleton,false_iff];omega
 | x::y::r,h,i,j=>by
  refine oA (List.pairwise_cons.mp h) λh1 h2=>?_;have h3:=(List.pairwise_cons.mp h2).1;have hy:=h1 y (by simp);have ih:=K2 h2 i j;show (i,j)∈(x,y)::(y::r).zip r↔_;rw[List.mem_cons];constructor
  ·rintro(e | e)
   ·cases e;refine⟨(by simp),(by simp),hy,(λk hk z=>?_)⟩;rcases List.mem_cons.mp hk with q | q
    ·lia
    ·rcases List.mem_cons.mp q with q | q
     ·lia
     ·have:=h3 k q;lia
   ·refine nK (ih.mp e) λa b c d=>⟨(List.mem_cons_of_mem _ a),(List.mem_cons_of_mem _ b),c,(λk hk z=>?_)⟩;rcases List.mem_cons.mp hk with q | q
    ·have:=h1 i a;lia
    ·exact d k q z
  ·intro au;refine nK au λa b c d=>?_;rcases List.mem_cons.mp a with e | e
   ·subst e;rcases List.mem_cons.mp b with q | q
    ·lia
    ·rcases List.mem_cons.mp q with z | z
     ·left;rw[z]
     ·exact absurd ⟨hy,h3 j z⟩ (d y (by simp))
   ·right
    refine ih.mpr (⟨e,?_,c,(λk hk=>d k (List.mem_cons_of_mem _ hk))⟩);rcases List.mem_cons.mp b with q | q
    ·have:=h1 i e;lia
    ·exact q
theorem vO{w:Str}{x:T3}:x∈my l w↔(x.1,x.2.1)∈l.zip l.tail/\x.2.2=w:=by
 unfold my;rw[List.mem_map];constructor
 ·intro au;refine ai au λp h aa=>?_;clear au;subst aa;exact⟨h,rfl⟩
 ·intro au;refine oA au λh aa=>?_;clear au;subst aa;exact aA _ h rfl
theorem Cr{j:Nat}{x:T3}(h:qh S j=a_ x):∃a,S.ac[j]?=a_ a/\a.seen=a_ x.1/\x.2.1=(j:Int)/\x.2.2 = "seen":=by
 unfold qh at h;refine ai (lN.mp h) λd h1 aa=>?_;subst aa;exact ai (sZ.mp h1) λa h2 h3=>⟨a,h2,h3,rfl,rfl⟩
section
variable{S:Mc}
theorem qd{c m j:Nat}:j∈jD S c m↔j<m/\gA S j=a_ c:=by
 unfold jD;rw[List.mem_filter,List.mem_range,decide_eq_true_iff]
theorem Im(c m:Nat):(jD S c m).Pairwise (· < ·):=List.Pairwise.filter _ List.pairwise_lt_range
def S0(S:Mc)(x:T3):Prop:=∃i j c:Nat,x=((i:Int),(j:Int),("own" : Str))/\i<j/\j<S.ac.length/\gA S i=a_ c/\gA S j=a_ c/\∀k,i<k->k<j->gA S k≠a_ c
theorem CV{c:Nat}{x:T3}:x∈yO S c↔∃i j:Nat,x=((i:Int),(j:Int),("own" : Str))/\i<j/\j<S.ac.length/\gA S i=a_ c/\gA S j=a_ c/\∀k,i<k->k<j->gA S k≠a_ c:=by
 unfold yO;rw[vO,<-List.map_tail,List.zip_map,List.mem_map];constructor
 ·intro au;refine oA au λaa hw=>ai aa λp hp e=>nK ((K2 (Im c _) p.1 p.2).mp hp) λh1 h2 h3 h4=>⟨p.1,p.2,?_,h3,((qd.mp h2).1),((qd.mp h1).2),((qd.mp h2).2),(λk a b z=>h4 k (qd.mpr ⟨tw b (qd.mp h2).1,z⟩) ⟨a,b⟩)⟩;injection e with e1 e2
  exact Prod.ext e1.symm (Prod.ext e2.symm hw)
 ·intro au;refine ic au λi j aa h1 h2 a8=>?_;clear au;subst aa;exact dg a8 λh3 h4 h5=>⟨⟨(i,j),(K2 (Im c _) i j).mpr ⟨qd.mpr ⟨tw h1 h2,h3⟩,qd.mpr ⟨h2,h4⟩,h1,λk hk z=>h5 k z.1 z.2 (qd.mp hk).2⟩,rfl⟩,rfl⟩
end
def t3V(x:T3):List V:=[.int x.1,.int x.2.1,.str x.2.2]
def cO(H:Hp)(v:V)(x:T3):Prop:=∃p,v=.ref p/\H p=a_ (.tup (t3V x))
theorem cO.keep(k:∀b xs,H b=a_ (.tup xs)->H' b=a_ (.tup xs)){x:T3}(h:cO H v x):cO H' v x:=ai h λp e q=>⟨p,e,k _ _ q⟩
theorem cO.all{L:List T3}(h:Paired (cO H) vs L)(k:∀b xs,H b=a_ (.tup xs)->H' b=a_ (.tup xs)):Paired (cO H') vs L:=Paired.b9 h λ_ _ q=>q.keep k
theorem aha(xs:List V):ik xs (a_ 1) b_=xs.tail:=by
 cases xs with
 | nil=>rfl
 | cons y ps=>exact Kj y ps
theorem Di(o:List Int)(w:Str):(my o w).length<=o.length:=by
 unfold my;rw[List.length_map,List.length_zip];lia
section
variable{t:aZ}{C CT:e_}
def J5:Sp:=λvs H Q _=>∃l o w,vs=[.ref l,.str w]/\H l=a_ (.lst (o.map V.int))/\o.length<=3000/\∀H' l' us,ah H H'->H l'=b_->H' l'=a_ (.lst us)->Paired (cO H') us (my o w)->Q (.ref l') H'
theorem agP:bf zLr zLr (aR AW):=bz
theorem Q0:(["why","one","other"]:List Str).Nodup:=dk
theorem ae6(F:aU K "neighbours" "neighbours" AW f fd)(hz:mg "zip" = b_):ax P w K mg base ay 1 f fd zLr J5:=by
 refine F.ok agP λaL A _ s H vs Q E hr h=>?_
 ·obtain⟨l,o,w,aa,hl,h1,q⟩:=h;subst aa
  refine⟨_,aG (bg (g6 (N:=["why","one","other"]) (idx:=[1]) rfl (cZ.of (by kernel_rfl)) (xQ (aw _) (kJ _))
   (IW (b1:=c_) (b2:=c_) rfl hz (ab (pv 0) (ab (x8 CM (pv 0) (vC aq) Aj) af)))
   (λ_ _ _ _=>kX rfl (dn (bb (i:=1) Q0 rfl (aF rfl) (.inr rfl)) (dn (bb (i:=2) Q0 rfl (aF rfl) (.inr rfl)) kQ)))
   (λ_ _ _ _=>gZ) λ_ _ _ _=>iH (ab (pv 1) (ab (pv 2) (ab (pv 0) af))))),?_⟩
  refine aA _ rfl (vr rfl (aA _ rfl ⟨l,⟨_,rfl,ae.of hl,λr nr=>?_⟩⟩));rw[aha];have s0:ah H (upd H r (.lst (o.map V.int).tail)):=aE (ah.refl _) nr;have qP:=s0 _ _ hl;have dE:upd H r (.lst (o.map V.int).tail) r=a_ (.lst (o.map V.int).tail):=ao;generalize upd H r (.lst (o.map V.int).tail)=H0 at s0 qP dE ⊢;have hn:(o.zip o.tail).length=o.length-1:=by rw[List.length_zip,List.length_tail];lia
  refine⟨l,r,_,_,rfl,(ae.of qP),(ae.of dE),(eN (n:=(o.zip o.tail).length) (λi ys H'=>i<=(o.zip o.tail).length/\ah H0 H'/\Paired (cO H') ys ((my o w).take i)) (c8 (P0 li)) (eT (aP _) (ah.refl _) .nil) ?_ ?_ ?_ ?_ ?_)⟩
  ·rintro i ys H' ⟨_,_,e⟩;rw[r_ e,List.length_take];exact xG _ _
  ·rintro i ys H' hi ⟨_,s4,_⟩;have h2:i<o.length:=li;have h3:i<o.tail.length:=by rw[List.length_tail];lia
   exact⟨_,_,(V.int o[i]),(V.int o.tail[i]),(ae.of (s4 _ _ qP)),(ae.of (s4 _ _ dE)),(by rw[List.getElem?_map,List.getElem?_eq_getElem h2];rfl),(by rw[<-List.map_tail,List.getElem?_map,List.getElem?_eq_getElem h3];rfl)⟩
  ·rintro ys H' ⟨_,s4,_⟩;exact dZ _ _ (ae.of (s4 _ _ qP)) (ae.of (s4 _ _ dE)) (.inr (by rw[<-List.map_tail,List.length_map,List.length_tail];lia))
  ·rintro i ys H1 hi ⟨_,s4,e⟩ v H2 ⟨p,x,y,np,ev,eH,uP⟩;subst ev;subst eH;refine oA (uP _ _ (ae.of (s4 _ _ qP)) (ae.of (s4 _ _ dE))) λhx hy=>?_;have h2:i<o.length:=li;have h3:i<o.tail.length:=by rw[List.length_tail];lia
   rw[List.getElem?_map,List.getElem?_eq_getElem h2]at hx;rw[<-List.map_tail,List.getElem?_map,List.getElem?_eq_getElem h3]at hy;cases hx;cases hy;have s5:=aE (o:=.tup [V.int o[i],V.int o.tail[i]]) (ah.refl H1) np;have ju:upd H1 p (.tup [V.int o[i],V.int o.tail[i]]) p=a_ (.tup [V.int o[i],V.int o.tail[i]]):=ao;generalize upd H1 p (.tup [V.int o[i],V.int o.tail[i]])=H5 at s5 ju ⊢;refine⟨p,⟨_,rfl,aB.of ju,rfl,_,_,rfl,_,[],rfl,rfl,_,rfl,_,rfl,_,rfl,(sl (n:=3)),λtp ht=>⟨hi,(s4.trans s5).trans (aE (ah.refl _) ht),?_⟩⟩⟩
   have Bi:(my o w)[i]?=a_ (o[i],o.tail[i],w):=by
    unfold my;rw[List.getElem?_map,List.getElem?_eq_getElem hi,List.getElem_zip];rfl
   rw[List.take_add_one,Bi];exact kI (cO.all e λb xs e=>aE s5 ht _ _ e) (aA tp rfl ao)
  ·rintro ys H1 ⟨_,s4,e⟩;rw[List.take_of_length_le (by unfold my;rw[List.length_map];exact aw _)]at e;have hz:=Di o w;refine⟨by rw[r_ e];exact c8 (P0 li),λrl iB=>?_⟩;have s6:=aE (o:=.lst ys) s4 iB;exact q _ rl ys (s0.trans s6) ((s0.trans s4).free iB) ao (cO.all e λb xs e=>aE (ah.refl _) iB _ _ e)
end
theorem gX{o:HO}(s:ah H H')(n:H l=b_):ah H (upd H' l o):=λb u e=>by
 rw[ag (λz=>by rw[z,n]at e;cases e)];exact s b u e
theorem Zw(S:Mc)(c i:Nat):jD S c (i+1)=jD S c i++(if gA S i=a_ c then [i] else []):=by
 unfold jD;rw[List.range_succ,List.filter_append]
 by_cases h:gA S i=a_ c <;> simp[h]
theorem HA(S:Mc)(c i:Nat):(jD S c i).length<=i:=by
 have:=List.length_filter_le (λj=>decide (gA S j=a_ c)) (List.range i);rw[List.length_range]at this;exact this
def ij(l:List Nat):List Int:=l.map λ(n:Nat)=>(n:Int)
theorem Ou(S:Mc)(m:Nat):mj S (m+1)=mj S m++yO S m:=by
 unfold mj;rw[List.range_succ,List.flatMap_append];simp
theorem Qe(S:Mc)(c:Nat):(yO S c).length<=S.ac.length:=cx (Di _ _) (by rw[List.length_map];exact HA _ _ _)
theorem Cv(S:Mc):∀m,(mj S m).length<=m*S.ac.length
 | 0=>aP _
 | m+1=>by
  rw[Ou,List.length_append,F'];exact Nat.add_le_add (Cv S m) (Qe S m)
section
variable{t:aZ}{C CT:e_}
def tN(t:aZ)(C CT:e_)(f:Mc->List T3):Sp:=λvs H Q _=>∃m A S,vs=[.ref m]/\aX t C CT H m A S/\gC S/\S.ac.length<=3000/\mw S/\∀H' l us,ah H H'->H l=b_->H' l=a_ (.lst us)->Paired (cO H') us (f S)->Q (.ref l) H'
theorem CO:bf ["machine","found","clerk","own"] zLb (aR IP):=bz
theorem Q9:(["clerk","number","deed"]:List Str).Nodup:=dk
theorem ado{f fD fN:e_}(F:aU K "by_own" "by_own" IP f fd)(cM:eP K C)(cW:mg "len" = b_)(di:mg "range" = b_)(qR:mg "enumerate" = b_)
  (GD:ax P w K mg base ay 1 fD ky zLf (Af t C CT)) (bD:Binds K ky zLf []) (mD:Meth K C "deeds" fD)
  (GN:ax P w K mg base ay 1 fN BD zLr J5) (FN:aU K "neighbours" "neighbours" AW fN BD) (bN:Binds K BD zLr []) (mN:mg "neighbours" = a_ (.ref fN)):ax P w K mg base ay 2 f fd zLb (tN t C CT λS=>mj S S.ps.length):=by
 refine F.ok CO λaL A _ s H vs Q E hr h=>?_
 ·obtain⟨m,A,S,aa,M,W,dN,Z,q⟩:=h;subst aa
  refine let R1:TS:=_;let R2:TS:=_;let R3:TS:=_;⟨_,ar (bp (i:=1) CO.nd rfl (aF rfl) (dy af)) (pR R3 (ar (hV gr rfl (jh rfl di (ab (bw dP rfl cW q_ (ab (cc (pv 0) rfl) af)) af)) (bb (i:=2) CO.nd rfl (tT rfl)) (pR R2 (ar (tE (i:=3) (N:=["clerk","number","deed"]) (idx:=[2]) CO.nd rfl rfl rfl (cZ.of (by kernel_rfl)) (xQ (aw _) (kJ _)) (vD (b:=c_) rfl qR (ab (jT (pv 0) cM.cl mD GD hr bD .nil aT) af))
     (λ_ _ _ _=>kX rfl (dn (bb (i:=1) Q9 rfl (aF rfl) (.inr rfl)) (dn (bb (i:=2) Q9 rfl (aF rfl) (.inr rfl)) kQ)))
     (λ_ _ _ _=>tJ (bo cH (aJ (vX K) (pv 2) aq) (pv 0) (a7 _))) λ_ _ _ _=>pv 1)
    (pR R1 (aG (dq (iK m_ PySem.F.slot_list_extend PySem.F.type_list_extend Cf (pv 1) (ab (cU GN hr rfl mN FN.kp bN .nil aT (ab (pv 3) (ab cJ af))) af))))))))
   (aG (bg (pv 1))))),?_⟩
  have hsz:=eM;refine⟨qc,λlw nw=>?_⟩;have s0:ah H (upd H lw (.lst [])):=aE (ah.refl _) nw;have nV:upd H lw (.lst []) lw=a_ (.lst []):=ao;generalize upd H lw (.lst [])=H0 at s0 nV ⊢;have h4:=W.good.le;refine bX (id M.obj) λdx fs hm G=>dC (id M.pg) λpa pv ep hp qN=>?_;cases ep;refine vF rfl (s0 _ _ hm) cM.cl cM.program G.program ⟨A.pg,⟨_,rfl,.inr (aB.of (s0 _ _ hp)),_,rfl,by rw[r_ qN];lia,by rw[r_ qN];lia,?_⟩⟩;rw[show ((pv.length:Int)).toNat=S.ps.length by rw[r_ qN];lia]
  let W1:IV:=λi σ H'=>i<=S.ps.length/\∃c y us,σ=[a_ (.ref m),a_ (.ref lw),c,y]/\ah H H'/\H' lw=a_ (.lst us)/\Paired (cO H') us (mj S i)
  refine rB (n:=S.ps.length) W1 ⟨aP _,b_,b_,[],rfl,s0,nV,.nil⟩ ?_ ?_
  ·intro i σ H1 hi au;refine oA au λ_ aa=>?_;obtain⟨c,y,us,aa,s1,iA,gE⟩:=aa;subst aa;rw[lQ];refine vM rfl (s1 _ _ hm) (G.ms _ dk) (⟨m,A,S,rfl,(M.same s1),(λld ws nd jM=>?_)⟩);have hd2:upd H1 ld (.lst ws) ld=a_ (.lst ws):=ao;have s2:ah H1 (upd H1 ld (.lst ws)):=aE (ah.refl _) nd;have oQ:=Paired.b9 jM λ_ _ (q:ig H1 _ _)=>ai q λp e h=>(⟨p,e,s2 _ _ h⟩:ig (upd H1 ld (.lst ws)) _ _);generalize upd H1 ld (.lst ws)=H2 at hd2 s2 oQ ⊢;have jN:=r_ oQ;refine⟨ld,⟨_,rfl,ae.of hd2,eN (n:=S.ac.length) (λj ys H'=>j<=S.ac.length/\ah H2 H'/\ys=(ij (jD S i j)).map V.int) (by rw[hsz];lia) (eT (aP _) (ah.refl _) rfl) ?_ ?_ ?_ ?_ ?_⟩⟩
   ·intro j ys H' au;refine dg au λ_ _ aa=>?_;clear au;subst aa;rw[List.length_map];unfold ij;rw[List.length_map];exact HA _ _ _
   ·intro j ys H' hj au;refine dg au λ_ s4 _=>?_;exact eO _ (ws[j]' li) (ae.of (s4 _ _ hd2)) (List.getElem?_eq_getElem _)
   ·intro ys H' au;refine dg au λ_ s4 _=>?_;exact aA _ (ae.of (s4 _ _ hd2)) li
   ·intro j ys H3 hj au v H4 ft;refine dg au λ_ s4 aa=>?_;clear au;subst aa;refine ic ft λp x np ev eH hx=>?_;subst ev;subst eH;have eV:=hx _ (ae.of (s4 _ _ hd2));refine ai (jg oQ eV) λa ha aa=>ai aa λpa ex fh=>?_;subst ex;have s5:=aE (o:=.tup [.int j,.ref pa]) (ah.refl H3) np;have ju:upd H3 p (.tup [.int j,.ref pa]) p=a_ (.tup [.int j,.ref pa]):=ao;generalize upd H3 p (.tup [.int j,.ref pa])=H5 at s5 ju ⊢;have hc:gA S j=a_ a.c:=by unfold gA;rw[ha];rfl
    refine⟨p,⟨_,rfl,aB.of ju,rfl,_,_,rfl,_,[],rfl,rfl,gj (v:=.int (a.c:Nat)) (j:=1) rfl (s5 _ _ (s4 _ _ fh)) rfl ⟨_,rfl,rq (H:=H5) rfl ?_⟩⟩⟩;rw[vH,Zw,hc];refine bQ (λe=>?_) λe=>?_
    ·refine vr rfl (eT hj (s4.trans s5) ?_);rw[if_pos (by rw[e])];unfold ij;rw[List.map_append,List.map_append];rfl
    ·refine eT hj (s4.trans s5) ?_;rw[if_neg λz=>e (cu z),List.append_nil]
   ·intro ys H3 au;refine dg au λ_ s4 aa=>?_;clear au;subst aa;have ze:=HA S i S.ac.length;have Bh:(ij (jD S i S.ac.length)).length<=S.ac.length:=by unfold ij;rw[List.length_map];exact ze
    refine⟨by rw[List.length_map,hsz];lia,λlo sJ=>?_⟩;have s6:=aE (o:=.lst ((ij (jD S i S.ac.length)).map V.int)) s4 sJ;have kx:upd H3 lo (.lst ((ij (jD S i S.ac.length)).map V.int)) lo=a_ (.lst ((ij (jD S i S.ac.length)).map V.int)):=ao;generalize upd H3 lo (.lst ((ij (jD S i S.ac.length)).map V.int))=H6 at s6 kx ⊢;have qK:=s6 _ _ (s2 _ _ iA);refine dQ _ rfl (.inl ⟨rfl,_,ae.of qK⟩) (vr rfl (wB lo _ (⟨_,rfl,kx,li,(λH7 l7 zs s7 n7 wR Bg=>?_)⟩)));have yZ:=r_ Bg;have Vq:=Qe S i;have uS:=r_ gE;have m5:=Cv S i;have ah9:i*S.ac.length<=4*3000:=FR li dN;have pC:=s7 _ _ qK;refine⟨lw,l7,us,zs,rfl,rfl,pC,wR,(by rw[hsz,uS,yZ];have:(my (ij (jD S i S.ac.length)) "own").length<=S.ac.length:=Vq;lia),hi,⟨_,_,_,rfl,gX (((s1.trans s2).trans s6).trans s7) nw,ao,?_⟩⟩;rw[Ou];have kt:=oz (o:=.lst (us++zs)) pC;exact tD (cO.all Bg kt) (cO.all gE λb xs e=>kt _ _ (s7 _ _ (s6 _ _ (s2 _ _ e))))
  ·intro σ H1 au;refine oA au λ_ aa=>?_;obtain⟨c,y,us,aa,s1,iA,gE⟩:=aa;subst aa;exact vr rfl (q H1 lw us s1 nw iA gE)
end
theorem NV(S:Mc)(m:Nat):oM S (m+1)=oM S m++yN S m:=by
 unfold oM;rw[List.range_succ,List.flatMap_append];simp
theorem Cd{b:Nat}(h:∀o∈S.ov,o.length<=b):∀m,(oM S m).length<=m*b
 | 0=>aP _
 | m+1=>by
  rw[NV,List.length_append,F'];refine Nat.add_le_add (Cd h m) (cx (Di _ _) ?_);cases e:S.ov[m]? with
  | none=>rw[List.getD_eq_getElem?_getD,e];exact aP _
  | some o=>rw[nD e];exact h o (List.mem_of_getElem? e)
theorem Q8:∀{n:Nat} {l:List Int},l.Nodup->(∀d∈l,∃j:Nat,d=(j:Int)/\j<n)->l.length<=n
 | 0,[],_,_=>aw _
 | 0,x::l,_,h=>by
  exact ai (h x (by simp)) λj _ hj=>absurd hj (pO _)
 | n+1,l,hn,h=>by
  have ih:=Q8 (n:=n) (l:=l.erase (n:Int)) (hn.erase _) λd hd=>by
   refine ai (h d (List.mem_of_mem_erase hd)) λj e hj=>?_;have eA:=(List.Nodup.mem_erase_iff hn).mp hd |>.1
   exact aA j e li
  rw[List.length_erase]at ih
  split at ih <;> lia
theorem mw.jr(Z:mw S):∀o∈S.ov,o.length<=S.ac.length:=λo ho=>by
 refine oE (List.getElem?_of_mem ho) λn hn=>?_;exact Q8 (Z.nd n o hn) λd hd=>dC (Z.im n o hn d hd) λj a e h _=>aA j e ((List.getElem?_eq_some_iff.mp h).1)
section
variable{t:aZ}{C CT:e_}
theorem Hi:bf ["machine","found","name"] zLb (aR Ib):=bz
theorem ab5{f fO fN:e_}(F:aU K "by_over" "by_over" Ib f fd)(cM:eP K C)(di:mg "range" = b_)(Lx:∃u,mg "NAMES" = a_ u/\RelV (.int 12) u)
  (GO:ax P w K mg base ay 1 fO lD zLc (C5 t C CT)) (bO:Binds K lD zLc []) (mO:Meth K C "over" fO)
  (GN:ax P w K mg base ay 1 fN BD zLr J5) (FN:aU K "neighbours" "neighbours" AW fN BD) (bN:Binds K BD zLr []) (mN:mg "neighbours" = a_ (.ref fN)):ax P w K mg base ay 2 f fd zLb (tN t C CT λS=>oM S 12):=by
 refine F.ok Hi λaL A _ s H vs Q E hr h=>?_
 ·refine Ce h λm A S aa M W dN Z q=>ai Lx λu hu ru=>?_;clear h;subst aa;refine let R1:TS:=_;let R3:TS:=_;⟨_,ar (bp (i:=1) Hi.nd rfl (aF rfl) (dy af)) (pR R3 (ar (hV gr rfl (jh rfl di (ab (gx rfl hu ru) af)) (bb (i:=2) Hi.nd rfl (aF rfl)) (pR R1 (aG (dq (iK m_ PySem.F.slot_list_extend PySem.F.type_list_extend Cf (pv 1) (ab (cU GN hr rfl mN FN.kp bN .nil aT (ab (iW (pv 0) cM.cl mO GO hr bO .nil aT (ab (pv 2) af)) (ab cJ af))) af)))))) (aG (bg (pv 1))))),?_⟩
  have hsz:=eM;have yF:=Z.jr;refine⟨qc,λlw nw=>?_⟩;have s0:ah H (upd H lw (.lst [])):=aE (ah.refl _) nw;have nV:upd H lw (.lst []) lw=a_ (.lst []):=ao;generalize upd H lw (.lst [])=H0 at s0 nV ⊢;refine bX (id M.obj) λdx fs hm G=>(⟨12,rfl,qc,qc,?_⟩)
  let W1:IV:=λi σ H'=>i<=12/\∃c us,σ=[a_ (.ref m),a_ (.ref lw),c]/\ah H H'/\H' lw=a_ (.lst us)/\Paired (cO H') us (oM S i)
  refine rB (n:=12) W1 ⟨aP _,b_,[],rfl,s0,nV,.nil⟩ ?_ ?_
  ·intro i σ H1 hi au;refine oA au λ_ aa=>?_;refine ic aa λc us aa s1 iA gE=>?_;subst aa;rw[lQ];have ho:S.ov[i]?=a_ (S.ov[i]'(by rw[W.ov];exact hi)):=List.getElem?_eq_getElem _;have m5:=yF _ (List.mem_of_getElem? ho);refine vr rfl ⟨.inl ⟨rfl,_,ae.of iA⟩,(vM rfl (s1 _ _ hm) (G.ms _ dk) (vr rfl (⟨m,A,S,i,_,rfl,(M.same s1),ho,(λlo sJ=>?_)⟩)))⟩;generalize S.ov[i]'_=o at ho m5 ⊢;have s6:=aE (o:=.lst (o.map V.int)) (ah.refl H1) sJ;have kx:upd H1 lo (.lst (o.map V.int)) lo=a_ (.lst (o.map V.int)):=ao;generalize upd H1 lo (.lst (o.map V.int))=H6 at s6 kx ⊢;have qK:=s6 _ _ iA;refine wB lo _ (⟨_,rfl,kx,li,(λH7 l7 zs s7 n7 wR Bg=>?_)⟩);have yZ:=r_ Bg;have Vq:=Di o "over";have uS:=r_ gE;have m5:=Cd yF i;have ah9:i*S.ac.length<=12*3000:=FR li dN;have pC:=s7 _ _ qK;refine⟨lw,l7,us,zs,rfl,rfl,pC,wR,(by rw[hsz,uS,yZ];lia),hi,⟨_,_,rfl,gX ((s1.trans s6).trans s7) nw,ao,?_⟩⟩;rw[NV];have kt:=oz (o:=.lst (us++zs)) pC;have e:yN S i=my o "over":=by unfold yN;rw[nD ho]
   rw[e];exact tD (cO.all Bg kt) (cO.all gE λb xs e=>kt _ _ (s7 _ _ (s6 _ _ e)))
  ·intro σ H1 au;refine oA au λ_ aa=>?_;refine ic aa λc us aa s1 iA gE=>?_;subst aa;exact vr rfl (q H1 lw us s1 nw iA gE)
end
theorem Yq(S:Mc)(i:Nat):nF S (i+1)=nF S i++(qh S i).toList:=by
 unfold nF;rw[List.range_succ,List.filterMap_append];cases h:qh S i <;> simp[h]
theorem Cb(S:Mc)(i:Nat):(nF S i).length<=i:=by
 have:=List.length_filterMap_le (qh S) (List.range i);rw[List.length_range]at this;exact this
section
variable{t:aZ}{C CT:e_}
theorem Z7:bf zLb zLb (aR Ia):=bz
theorem RN:(["number","deed"]:List Str).Nodup:=dk
theorem ab3(F:aU K "by_seen" "by_seen" Ia f fd)(cM:eP K C)(qR:mg "enumerate" = b_)
  (GD:ax P w K mg base ay 1 fD ky zLf (Af t C CT)) (bD:Binds K ky zLf []) (mD:Meth K C "deeds" fD):ax P w K mg base ay 2 f fd zLb (tN t C CT λS=>nF S S.ac.length):=by
 refine F.ok Z7 λaL A _ s H vs Q E hr h=>?_
 ·obtain⟨m,A,S,aa,M,W,dN,Z,q⟩:=h;subst aa
  refine⟨_,aG (bg (g6 (N:=["number","deed"]) (idx:=[]) rfl (cZ.of (by kernel_rfl)) (xQ (aP _) (aP _)) (vD (b:=c_) rfl qR (ab (jT (pv 0) cM.cl mD GD hr bD .nil aT) af))
     (λ_ _ _ _=>kX rfl (dn (bb (i:=0) RN rfl (aF rfl) (.inr rfl)) (dn (bb (i:=1) RN rfl (aF rfl) (.inr rfl)) kQ)))
     (λ_ _ _ _=>tJ (bo Ih (aJ (vX K) (pv 1) aq) kY (a7 _))) λ_ _ _ _=>iH (ab (aJ (vX K) (pv 1) aq) (ab (pv 0) (ab cJ af))))),?_⟩
  have hsz:=eM;refine bX (id M.obj) λdx fs hm G=>vM rfl hm (G.ms _ dk) (⟨m,A,S,rfl,M,(λld ws nd jM=>?_)⟩);have hd2:upd H ld (.lst ws) ld=a_ (.lst ws):=ao;have s2:ah H (upd H ld (.lst ws)):=aE (ah.refl _) nd;have oQ:=Paired.b9 jM λ_ _ (q:ig H _ _)=>ai q λp e h=>(⟨p,e,s2 _ _ h⟩:ig (upd H ld (.lst ws)) _ _);generalize upd H ld (.lst ws)=H2 at hd2 s2 oQ ⊢;have jN:=r_ oQ;refine⟨ld,⟨_,rfl,ae.of hd2,eN (n:=S.ac.length) (λj ys H'=>j<=S.ac.length/\ah H2 H'/\Paired (cO H') ys (nF S j)) (by rw[hsz];lia) (eT (aP _) (ah.refl _) .nil) ?_ ?_ ?_ ?_ ?_⟩⟩
  ·intro j ys H' au;refine dg au λ_ _ e=>?_;rw[r_ e];exact Cb _ _
  ·intro j ys H' hj au;refine dg au λ_ s4 _=>?_;exact eO _ (ws[j]' li) (ae.of (s4 _ _ hd2)) (List.getElem?_eq_getElem _)
  ·intro ys H' au;refine dg au λ_ s4 _=>?_;exact aA _ (ae.of (s4 _ _ hd2)) li
  ·intro j ys H3 hj au v H4 ft;refine dg au λ_ s4 e=>?_;refine ic ft λp x np ev eH hx=>?_;subst ev;subst eH;have eV:=hx _ (ae.of (s4 _ _ hd2));refine ai (jg oQ eV) λa ha aa=>ai aa λpa ex fh=>?_;subst ex;have s5:=aE (o:=.tup [.int j,.ref pa]) (ah.refl H3) np;have ju:upd H3 p (.tup [.int j,.ref pa]) p=a_ (.tup [.int j,.ref pa]):=ao;generalize upd H3 p (.tup [.int j,.ref pa])=H5 at s5 ju ⊢;have yC:=s5 _ _ (s4 _ _ fh);refine⟨p,⟨_,rfl,aB.of ju,rfl,_,_,rfl,_,[],rfl,rfl,gj (v:=oV a.seen) (j:=5) rfl yC rfl ⟨rfl,_,rfl,?_⟩⟩⟩;have hO:qh S j=a.seen.map λd=>(d,(j:Int),("seen" : Str)):=by unfold qh;rw[ha];rfl
   rw[Yq,hO];cases hs:a.seen with
   | none=>
    refine eT hj (s4.trans s5) ?_;show Paired _ ys (nF S j++[]);rw[List.append_nil];exact cO.all e λb xs e=>s5 _ _ e
   | some d=>
    exact gj (v:=.int d) (j:=5) rfl yC (by unfold Kl;rw[hs];rfl) ⟨_,rfl,(sl (n:=3)),λtp ht=>⟨hj,aE (s4.trans s5) ht,kI (cO.all e λb xs e=>aE s5 ht _ _ e) (aA tp rfl ao)⟩⟩
  ·intro ys H3 au;refine dg au λ_ s4 e=>?_;have ze:=Cb S S.ac.length;exact⟨by rw[r_ e,hsz];lia,λrl iB=>q _ rl ys (s2.trans (aE s4 iB)) ((s2.trans s4).free iB) ao (cO.all e λb xs e=>aE (ah.refl _) iB _ _ e)⟩
end
def dH(o:List Int):List (Option Int):=b_::o.map a_
def nextT(o:List Int)(j:Nat)(s:Option Int):Option Int:=(((dH o).zip o).take j).lookup s
theorem gY{j:Nat}(h:j<o.length):j<(dH o).length:=by unfold dH;rw[List.length_cons,List.length_map];lia
theorem Ha(o:List Int):((dH o).zip o).length=o.length:=by unfold dH;rw[List.length_zip,List.length_cons,List.length_map];lia
theorem Zm(o:List Int)(s:Option Int):nextT o o.length s=nextM o s:=by
 unfold nextT;rw[List.take_of_length_le (by rw[Ha];exact aw _)];rfl
theorem Hx(h:o.Nodup):(dH o).Nodup:=by
 refine List.nodup_cons.mpr ⟨λz=>?_,List.Pairwise.map _ (λa b z e=>z (cu e)) h⟩;refine ai (List.mem_map.mp z) λx _ e=>?_;cases e
theorem X8{l:List (Option Int×Int)}{k s:Option Int}{v:Int}:(l++[(k,v)]).lookup s=(l.lookup s).or (if s=k then a_ v else b_):=by
 induction l with
 | nil=>
  show ([(k,v)]).lookup s=_;rw[List.lookup_cons]
  by_cases h:s=k
  ·simp[h]
  ·rw[if_neg h,beq_eq_false_iff_ne.mpr h];rfl
 | cons p l ih=>
  obtain⟨a,b⟩:=p;rw[List.cons_append,List.lookup_cons,List.lookup_cons,ih];cases (s == a) <;> rfl
theorem YD(hn:o.Nodup){j:Nat}(hj:j<o.length)(s:Option Int):nextT o (j+1) s=if s=(dH o)[j]'(gY hj) then a_ o[j] else nextT o j s:=by
 have hz:((dH o).zip o)[j]?=a_ ((dH o)[j]'(gY hj),o[j]):=by
  rw[List.getElem?_eq_getElem (by rw[Ha];exact hj),List.getElem_zip]
 unfold nextT;rw[List.take_add_one,hz];show (_++[_]).lookup s=_;rw[X8]
 by_cases e:s=(dH o)[j]'(gY hj)
 ·rw[if_pos e,if_pos e]
  have h0:(((dH o).zip o).take j).lookup s=none:=by
   rw[List.lookup_eq_none_iff];intro p hp;refine bne_iff_ne.mpr λz=>oE (List.getElem?_of_mem hp) λi hi=>?_;rw[List.getElem?_take]at hi
   split at hi
   ·rename_i sS
    have VS:i<o.length:=li;rw[List.getElem?_eq_getElem (by rw[Ha];exact VS),List.getElem_zip]at hi;cases hi;exact List.pairwise_iff_getElem.mp (Hx hn) i j (gY VS) (gY hj) sS (z.symm.trans e)
   ·cases hi
  rw[h0];rfl
 ·rw[if_neg e,if_neg e];cases (((dH o).zip o).take j).lookup s <;> rfl
theorem ahd(o:List Int):[V.aH]++o.map V.int=(dH o).map oV:=by
 unfold dH;rw[List.map_cons,List.map_map];rfl
def ahh(S:Mc)(kvs:List (List Key×V)):Prop:=∀(m:Nat) (s:Option Int),m<12->bh kvs [a_ (m:Int),s]=(nextM (S.ov.getD m []) s).map V.int
def DQ(S:Mc)(i:Nat)(f:Option Int->Option Int)(kvs:List (List Key×V)):Prop:=∀(m:Nat) (s:Option Int),bh kvs [a_ (m:Int),s]=if m<i then (nextM (S.ov.getD m []) s).map V.int else if m=i then (f s).map V.int else b_
theorem g9{k:Nat}(r:eJ k A):A.units+1<cLine:=by have:=r.un;lia
theorem RJ(s:Option Int):oV s=kV s:=by cases s <;> rfl
theorem acI{i j:Nat}{kvs:List (List Key×V)}(hn:o.Nodup)(hj:j<o.length)(h:DQ S i (nextT o j) kvs):DQ S i (nextT o (j+1)) (putK kvs [a_ (i:Int),(dH o)[j]'(gY hj)] (.int o[j])):=by
 intro m s;rw[ou,h m s,YD hn hj]
 by_cases e:([a_ (m:Int),s]:List Key)=[a_ (i:Int),(dH o)[j]'(gY hj)]
 ·rw[if_pos e];injection e with e1 e2
  injection e2 with e2 _
  have:m=i:=by have:=cu e1;lia
  subst this;rw[if_neg (nu _),if_pos rfl,if_pos e2];rfl
 ·rw[if_neg e]
  split
  ·rfl
  ·split
   ·rename_i hm
    subst hm;rw[if_neg λz=>e (by rw[z])]
   ·rfl
section
variable{t:aZ}{C CT:e_}
def O2(t:aZ)(C CT:e_):Sp:=λvs H Q _=>∃m A S,vs=[.ref m]/\aX t C CT H m A S/\gC S/\S.ac.length<=3000/\mw S/\∀H' l kvs,ah H H'->H l=b_->H' l=a_ (.dT kvs)->ahh S kvs->Q (.ref l) H'
theorem xY:bf ["machine","found","name","comers","one","other"] ["machine"] (aR CS):=bz
theorem Zc(F:aU K "comers_behind" "comers_behind" CS f fd)(cM:eP K C)(di:mg "range" = b_)(hzp:mg "zip" = b_)(Lx:∃u,mg "NAMES" = a_ u/\RelV (.int 12) u)
  (GO:ax P w K mg base ay 1 fO lD zLc (C5 t C CT)) (bO:Binds K lD zLc []) (mO:Meth K C "over" fO):ax P w K mg base ay 2 f fd zLb (O2 t C CT):=by
 refine F.ok xY λaL A _ s H vs Q E hr h=>?_
 ·refine Ce h λm A S aa M W dN Z q=>ai Lx λu hu ru=>?_;clear h;subst aa;refine let R1:TS:=_;let R2:TS:=_;let R3:TS:=_;⟨_,ar (bp (i:=1) xY.nd rfl (aF rfl) aai) (pR R3 (ar (hV gr rfl (jh rfl di (ab (gx rfl hu ru) af)) (bb (i:=2) xY.nd rfl (aF rfl)) (pR R2 (ar (bp (i:=3) xY.nd rfl (aF rfl) (iW (pv 0) cM.cl mO GO hr bO .nil aT (ab (pv 2) af))) (aG (hV gr rfl (IW (b1:=c_) (b2:=c_) rfl hzp (ab (aW yk (dy (ab kY af)) (pv 3)) (ab (pv 3) af))) (kX rfl (dn (bb (i:=4) xY.nd rfl (aF rfl)) (dn (bb (i:=5) xY.nd rfl (aF rfl)) kQ))) (pR R1 (aG (Ai (g9 hr) (pv 1) (iH (ab (pv 2) (ab (pv 4) af))) (pv 5) rfl)))))))) (aG (bg (pv 1))))),?_⟩
  have hsz:=eM;have yF:=Z.jr;refine λlw nw=>?_;have s0:ah H (upd H lw (.dT [])):=aE (ah.refl _) nw;have nV:upd H lw (.dT []) lw=a_ (.dT []):=ao;generalize upd H lw (.dT [])=H0 at s0 nV ⊢;refine bX (id M.obj) λdx fs hm G=>(⟨12,rfl,qc,qc,?_⟩)
  let W1:IV:=λi σ H'=>i<=12/\∃a b c d kvs,σ=[a_ (.ref m),a_ (.ref lw),a,b,c,d]/\ah H H'/\H' lw=a_ (.dT kvs)/\DQ S i (λ_=>b_) kvs/\kvs.length<=i*3000
  refine rB (n:=12) W1 ⟨aP _,b_,b_,b_,b_,[],rfl,s0,nV,λm s=>(by rw[if_neg (pO _)];split <;> rfl),aP _⟩ ?_ ?_
  ·intro i σ H1 hi au;refine oA au λ_ aa=>?_;obtain⟨a,b,c,d,kvs,aa,s1,iA,hB,sR⟩:=aa;subst aa;rw[lQ];have ho:S.ov[i]?=a_ (S.ov[i]'(by rw[W.ov];exact hi)):=List.getElem?_eq_getElem _;have m5:=yF _ (List.mem_of_getElem? ho);refine vM rfl (s1 _ _ hm) (G.ms _ dk) (vr rfl (⟨m,A,S,i,_,rfl,(M.same s1),ho,(λlo sJ=>?_)⟩));generalize S.ov[i]'_=o at ho m5 ⊢;have hnd:=Z.nd i o ho;have s6:=aE (o:=.lst (o.map V.int)) (ah.refl H1) sJ;have kx:upd H1 lo (.lst (o.map V.int)) lo=a_ (.lst (o.map V.int)):=ao;generalize upd H1 lo (.lst (o.map V.int))=H6 at s6 kx ⊢;refine⟨qc,λr1 nr1=>⟨_,rfl,?_⟩⟩;have s7:=aE (o:=.lst [.aH]) (ah.refl H6) nr1;have fX:upd H6 r1 (.lst [.aH]) r1=a_ (.lst [.aH]):=ao;generalize upd H6 r1 (.lst [.aH])=H7 at s7 fX ⊢;refine⟨r1,lo,_,(jy _ rfl rfl fX (s7 _ _ kx) (by rw[hsz,List.length_map];show 1+o.length<=_;lia) λr2 U0=>⟨_,rfl,?_⟩)⟩;rw[ahd];have s8:=aE (o:=.lst ((dH o).map oV)) (s7) U0;have iC:upd H7 r2 (.lst ((dH o).map oV)) r2=a_ (.lst ((dH o).map oV)):=ao;have ai6:=((s1.trans s6).trans s7).free U0;generalize upd H7 r2 (.lst ((dH o).map oV))=H8 at s8 iC ⊢;have Tv:=s8 _ _ kx;have y4:=s8 _ _ (s6 _ _ iA);have n1:lo≠lw:=λz=>by rw[z,iA]at sJ;cases sJ
   have n2:r2≠lw:=λz=>by rw[z,y4]at iC;cases iC
   let W2:IV:=λj σ H'=>j<=o.length/\∃c d kvs,σ=[a_ (.ref m),a_ (.ref lw),a_ (.int (i:Nat)),a_ (.ref lo),c,d]/\ah H H'/\H' lo=a_ (.lst (o.map V.int))/\H' r2=a_ (.lst ((dH o).map oV))/\H' lw=a_ (.dT kvs)/\DQ S i (nextT o j) kvs/\kvs.length<=i*3000+j
   refine⟨r2,lo,_,(⟨_,rfl,(ae.of iC),(ae.of Tv),(As (n:=o.length) W2 ⟨aP _,c,d,kvs,rfl,(s1.trans s6).trans s8,Tv,iC,y4,hB,sR⟩ ?_ ?_ ?_ ?_)⟩)⟩
   ·intro j σ H' hj au;refine oA au λ_ aa=>?_;obtain⟨c,d,kvs,aa,_,h1,h2,_⟩:=aa;subst aa;exact⟨_,_,(oV ((dH o)[j]'(gY hj))),(V.int o[j]),(ae.of h2),(ae.of h1),(by rw[List.getElem?_map,List.getElem?_eq_getElem (gY hj)];rfl),(by rw[List.getElem?_map,List.getElem?_eq_getElem hj];rfl)⟩
   ·intro σ H' au;refine oA au λ_ aa=>?_;obtain⟨c,d,kvs,aa,_,h1,h2,_⟩:=aa;subst aa;exact dZ _ _ (ae.of h2) (ae.of h1) (.inr (by rw[List.length_map];exact aw _))
   ·intro j σ H9 hj au v BP ft;refine oA au λ_ aa=>?_;obtain⟨c,d,kvs,aa,s9,h1,h2,h3,Mn,hk9⟩:=aa;subst aa;obtain⟨p,x,y,np,ev,eH,uP⟩:=ft;subst ev;subst eH;refine oA (uP _ _ (ae.of h2) (ae.of h1)) λhx hy=>?_;rw[List.getElem?_map,List.getElem?_eq_getElem (gY hj)]at hx;rw[List.getElem?_map,List.getElem?_eq_getElem hj]at hy;cases hx;cases hy;have mQ:=aE (o:=.tup [oV ((dH o)[j]'(gY hj)),V.int o[j]]) (ah.refl H9) np;have ju:upd H9 p (.tup [oV ((dH o)[j]'(gY hj)),V.int o[j]]) p=a_ (.tup [oV ((dH o)[j]'(gY hj)),V.int o[j]]):=ao;generalize upd H9 p (.tup [oV ((dH o)[j]'(gY hj)),V.int o[j]])=BP at mQ ju ⊢;refine⟨p,⟨_,rfl,aB.of ju,rfl,_,_,rfl,_,[],rfl,rfl,_,rfl,_,rfl,_,rfl,_,rfl,(sl (n:=2)),λtp Lk=>?_⟩⟩;have iP:=aE (o:=.tup [.int (i:Nat),oV ((dH o)[j]'(gY hj))]) mQ Lk;have lG:upd BP tp (.tup [.int (i:Nat),oV ((dH o)[j]'(gY hj))]) tp=a_ (.tup [.int (i:Nat),oV ((dH o)[j]'(gY hj))]):=ao;generalize upd BP tp (.tup [.int (i:Nat),oV ((dH o)[j]'(gY hj))])=BO at iP lG ⊢;have hpk:=pU kvs [a_ (i:Int),(dH o)[j]'(gY hj)] (.int o[j]);have aiT:i*3000<=12*3000:=Nat.mul_le_mul_right _ li;refine⟨lw,⟨_,rfl,.inr ⟨kvs,[a_ (i:Int),(dH o)[j]'(gY hj)],tp,iP _ _ h3,rfl,by rw[lG,RJ];rfl,by rw[hsz];lia,rfl⟩,hj,_,_,_,rfl,gX (s9.trans iP) nw,?_,?_,ao,acI hnd hj Mn,li⟩⟩
    ·rw[ag n1];exact iP _ _ h1
    ·rw[ag n2];exact iP _ _ h2
   ·intro σ H9 au;refine oA au λ_ aa=>?_;obtain⟨c,d,kvs,aa,s9,h1,h2,h3,Mn,hk9⟩:=aa;subst aa;refine⟨hi,⟨_,_,_,_,kvs,rfl,s9,h3,λm s=>?_,by rw[F'];lia⟩⟩;rw[Mn m s]
    by_cases e1:m<i
    ·rw[if_pos e1,if_pos li]
    ·rw[if_neg e1]
     by_cases e2:m=i
     ·subst e2;rw[if_pos rfl,if_pos li,Zm,nD ho]
     ·rw[if_neg e2,if_neg li]
      split <;> rfl
  ·intro σ H1 au;refine oA au λ_ aa=>?_;obtain⟨a,b,c,d,kvs,aa,s1,iA,hB,sR⟩:=aa;subst aa;refine vr rfl (q H1 lw kvs s1 nw iA λm s hm=>?_);rw[hB m s,if_pos hm]
end
theorem NF(S:Mc)(i:Nat):oJ S (i+1)=oJ S i++(k8 S i).toList:=by
 unfold oJ;rw[List.range_succ,List.filterMap_append];cases h:k8 S i <;> simp[h]
theorem Gj(S:Mc)(i:Nat):(oJ S i).length<=i:=by
 have:=List.length_filterMap_le (k8 S) (List.range i);rw[List.length_range]at this;exact this
section
variable{t:aZ}{C CT:e_}
theorem xT:bf ["machine","behind","found","number","deed","other"] ["machine"] (aR Hq):=bz
theorem aas(F:aU K "by_ahead" "by_ahead" Hq f fd)(cM:eP K C)(qR:mg "enumerate" = b_)
  (GB:ax P w K mg base ay 2 fB mz zLb (O2 t C CT)) (FB:aU K "comers_behind" "comers_behind" CS fB mz) (bB:Binds K mz zLb []) (mB:mg "comers_behind" = a_ (.ref fB))
  (GD:ax P w K mg base ay 1 fD ky zLf (Af t C CT)) (bD:Binds K ky zLf []) (mD:Meth K C "deeds" fD):ax P w K mg base ay 3 f fd zLb (tN t C CT λS=>oJ S S.ac.length):=by
 refine F.ok xT λaL A _ s H vs Q E hr h=>?_
 ·obtain⟨m,A,S,aa,M,W,dN,Z,q⟩:=h;subst aa;have fX:=hr.mono (show 1<=2 by decide);refine let R1:TS:=_;let R2:TS:=_;let R3:TS:=_;let R4:TS:=_;⟨_,ar (bp (i:=1) xT.nd rfl (aF rfl) (cU GB hr rfl mB FB.kp bB .nil aT (ab (pv 0) af))) (pR R4 (ar (bp (i:=2) xT.nd rfl (aF rfl) (dy af)) (pR R3 (ar (hV gr rfl (vD (b:=c_) rfl qR (ab (jT (pv 0) cM.cl mD GD fX bD .nil aT) af)) (kX rfl (dn (bb (i:=3) xT.nd rfl (aF rfl)) (dn (bb (i:=4) xT.nd rfl (aF rfl)) kQ))) (pR R2 (ar (bp (i:=5) xT.nd rfl (aF rfl) (Hs (bo IZ (aJ cq (pv 4) aq) kY (a7 _)) kY (aaj (g9 hr) (pv 1) (iH (ab (aJ cq (pv 4) aq) (ab (aJ cq (pv 4) aq) af))) ⟨rfl,rfl,rfl,rfl⟩))) (aG (bZ (PW.pt (pw_and (bo Ih (pv 5) kY (a7 _)) (pw_and1 (bo vU (pv 5) (pv 3) (a7 _))))) (pR R1 (aG (dq (iK m_ n_ o_ lV (pv 2) (ab (iH (ab (pv 3) (ab (pv 5) (ab cJ af)))) af))))) cp))))) (aG (bg (pv 2))))))),?_⟩
  have hsz:=eM;refine vr rfl (⟨m,A,S,rfl,M,W,dN,Z,(λH0 lb kvs s0 nb hb hB=>⟨qc,λlw nw=>?_⟩)⟩);have s1:=aE (o:=.lst []) s0 nw;have nh:=aE (o:=.lst []) (ah.refl H0) nw _ _ hb;have UZ:=s0.free nw;have iA:upd H0 lw (.lst []) lw=a_ (.lst []):=ao;generalize upd H0 lw (.lst [])=H1 at s1 nh iA ⊢;refine bX (id M.obj) λdx fs hm G=>vM rfl (s1 _ _ hm) (G.ms _ dk) (⟨m,A,S,rfl,(M.same s1),(λld ws nd jM=>?_)⟩);have hd2:upd H1 ld (.lst ws) ld=a_ (.lst ws):=ao;have s2:ah H1 (upd H1 ld (.lst ws)):=aE (ah.refl _) nd;have oQ:=Paired.b9 jM λ_ _ (q:ig H1 _ _)=>ai q λp e h=>(⟨p,e,s2 _ _ h⟩:ig (upd H1 ld (.lst ws)) _ _);have n1:ld≠lw:=λz=>by rw[z,iA]at nd;cases nd
  have n2:lb≠lw:=λz=>by rw[z,iA]at nh;cases nh
  generalize upd H1 ld (.lst ws)=H2 at hd2 s2 oQ ⊢;have jN:=r_ oQ
  let W1:IV:=λj σ H'=>j<=S.ac.length/\∃a b c us,σ=[a_ (.ref m),a_ (.ref lb),a_ (.ref lw),a,b,c]/\ah H H'/\H' lb=a_ (.dT kvs)/\H' ld=a_ (.lst ws)/\Paired (ig H') ws S.ac/\H' lw=a_ (.lst us)/\Paired (cO H') us (oJ S j)
  refine⟨ld,⟨_,rfl,ae.of hd2,As (n:=S.ac.length) W1 ⟨aP _,b_,b_,b_,[],rfl,s1.trans s2,s2 _ _ nh,hd2,oQ,s2 _ _ iA,.nil⟩ ?_ ?_ ?_ ?_⟩⟩
  ·intro j σ H' hj au;refine oA au λ_ aa=>?_;obtain⟨_,_,_,_,aa,_,_,hd,_⟩:=aa;subst aa;exact eO _ (ws[j]' li) (ae.of hd) (List.getElem?_eq_getElem _)
  ·intro σ H' au;refine oA au λ_ aa=>?_;obtain⟨_,_,_,_,aa,_,_,hd,_⟩:=aa;subst aa;exact aA _ (ae.of hd) li
  ·intro j σ H3 hj au v H4 ft;refine oA au λ_ aa=>?_;obtain⟨x1,x2,x3,us,aa,s3,xp,Bt,Tj,wU,gE⟩:=aa;subst aa;refine ic ft λp x np ev eH hx=>?_;subst ev;subst eH;have eV:=hx _ (ae.of Bt);refine ai (jg Tj eV) λa ha aa=>ai aa λpa ex fh=>?_;subst ex;have s5:=aE (o:=.tup [.int j,.ref pa]) (ah.refl H3) np;have ju:upd H3 p (.tup [.int j,.ref pa]) p=a_ (.tup [.int j,.ref pa]):=ao;generalize upd H3 p (.tup [.int j,.ref pa])=H5 at s5 ju ⊢;have yC:=s5 _ _ fh;have aD:=Z.ok j a ha;have hO:k8 S j=qf S j a:=by unfold k8;rw[ha];rfl
   have Ti:=Paired.b9 Tj λ_ _ (q:ig H3 _ _)=>ai q λp e h=>(⟨p,e,s5 _ _ h⟩:ig H5 _ _);have To:=cO.all gE λb xs e=>s5 _ _ e;have uS:=r_ gE;have hal:=Gj S j;refine⟨p,⟨_,rfl,aB.of ju,rfl,_,_,rfl,_,[],rfl,rfl,gj (v:=oV a.got) (j:=3) rfl yC rfl ⟨rfl,_,rfl,?_⟩⟩⟩
   have stop:∀{H6:Hp} {o:Option V},ah H5 H6->k8 S j=b_->W1 (j+1) [a_ (.ref m),a_ (.ref lb),a_ (.ref lw),a_ (.int j),a_ (.ref pa),o] H6:=λ{H6 o} s6 e=>⟨hj,_,_,_,us,rfl,(s3.trans s5).trans s6,s6 _ _ (s5 _ _ xp),s6 _ _ (s5 _ _ Bt),Paired.b9 Ti λ_ _ (q:ig H5 _ _)=>ai q λp e h=>⟨p,e,s6 _ _ h⟩,s6 _ _ (s5 _ _ wU),by
    rw[NF,e];show Paired _ us (oJ S j++[]);rw[List.append_nil];exact cO.all To λb xs e=>s6 _ _ e⟩
   cases hg:a.got with
   | none=>
    refine bQ (λ_=>?_) λz=>absurd rfl z;refine dQ _ rfl rfl (aA _ rfl (RY rfl (dJ (stop (ah.refl _) ?_))));rw[hO];unfold qf;rw[if_pos];rcases aD.k with h | h
    ·exact h.1
    ·rw[hg]at h;cases h.2
   | some g=>
    refine bQ (λz=>nomatch z) λ_=>?_
    have ja:a.k ≠ "set":=λz=>by
     rcases aD.k with h | h
     ·rw[hg]at h;cases h.2
     ·rw[z]at h;exact absurd h.1 dk
    refine vr rfl (dQ lb rfl (.inr ⟨kvs,.inl (s5 _ _ xp)⟩) (gj (v:=.int (a.n:Nat)) (j:=2) rfl yC rfl (gj (v:=oV a.seen) (j:=5) rfl yC rfl ⟨(sl (n:=2)),λtp Lk=>?_⟩)));have s6:=aE (o:=.tup [.int (a.n:Nat),oV a.seen]) (ah.refl H5) Lk;have lG:upd H5 tp (.tup [.int (a.n:Nat),oV a.seen]) tp=a_ (.tup [.int (a.n:Nat),oV a.seen]):=ao;generalize upd H5 tp (.tup [.int (a.n:Nat),oV a.seen])=H6 at s6 lG ⊢
    have hA:k8 S j=(nextM (S.ov.getD a.n []) a.seen).bind λb=>if b=(j:Int) then b_ else a_ ((j:Int),b,("ahead" : Str)):=by
     rw[hO];unfold qf;rw[if_neg ja]
    refine aA _ (dR.t (k:=[a_ (a.n:Int),a.seen]) (s6 _ _ (s5 _ _ xp)) (by rw[lG,RJ];rfl)) ?_;rw[hB a.n a.seen aD.n];cases hn:nextM (S.ov.getD a.n []) a.seen with
    | none=>
     refine dQ _ rfl rfl (aA _ rfl (RY rfl (dJ (stop s6 ?_))));rw[hA,hn];rfl
    | some b=>
     rw[hn]at hA;rw[show (Option.map V.int (a_ b)).getD V.aH=V.int b from rfl];refine dQ _ rfl rfl (aA _ rfl (lg (λ_=>?_) λz=>nomatch z));refine vr rfl (vr rfl ⟨rfl,⟨_,rfl,lg (λz=>?_) λz=>?_⟩⟩)
     ·have qK:=s6 _ _ (s5 _ _ wU);refine vr rfl ⟨.inl ⟨rfl,_,ae.of qK⟩,⟨_,rfl,_,rfl,(sl (n:=3)),λtq ntq=>?_⟩⟩;have s7:=aE (o:=.tup [.int j,.int b,.str "ahead"]) (ah.refl H6) ntq;have VC:upd H6 tq (.tup [.int j,.int b,.str "ahead"]) tq=a_ (.tup [.int j,.int b,.str "ahead"]):=ao;generalize upd H6 tq (.tup [.int j,.int b,.str "ahead"])=H7 at s7 VC ⊢;have A5:=s6.trans s7;have pC:=s7 _ _ qK;have kt:=oz (o:=.lst (us++[.ref tq])) pC;refine wB lw us (jy _ rfl rfl pC (by rw[hsz];lia) hj ⟨_,_,_,us++[.ref tq],rfl,gX ((s3.trans s5).trans A5) UZ,?_,?_,Paired.b9 Ti λ_ _ (q:ig H5 _ _)=>ai q λp e h=>⟨p,e,kt _ _ (A5 _ _ h)⟩,ao,?_⟩)
      ·rw[ag n2];exact A5 _ _ (s5 _ _ xp)
      ·rw[ag n1];exact A5 _ _ (s5 _ _ Bt)
      ·rw[NF,hA];show Paired _ _ (oJ S j++(if b=(j:Int) then b_ else a_ ((j:Int),b,("ahead" : Str)):Option T3).toList);rw[if_neg λe=>z (by rw[e])];exact kI (cO.all To λb xs e=>kt _ _ (A5 _ _ e)) (aA tq rfl (kt _ _ VC))
     ·refine stop s6 ?_;rw[hA];show (if b=(j:Int) then b_ else _)=b_;rw[if_pos (V.int.inj z)]
  ·intro σ H1 au;refine oA au λ_ aa=>?_;obtain⟨_,_,_,us,aa,s1,_,_,_,iA,gE⟩:=aa;subst aa;exact vr rfl (q H1 lw us s1 UZ iA gE)
end
def JO(S:Mc):Prop:=∀(i:Nat) k,S.ck[i]?=a_ k->k.es=[]
section
variable{t:aZ}{C CT:e_}
def QI(t:aZ)(C CT:e_):Sp:=λvs H Q _=>∃m A S,vs=[.ref m]/\aX t C CT H m A S/\gC S/\S.ac.length<=3000/\JO S/\∀H',ah H H'->Q .aH H'
theorem QR:bf ["machine","clerk"] zLb (aR Jr):=bz
theorem ab9(F:aU K "refuse_waiting" "refuse_waiting" Jr f fd)(cM:eP K C)(cW:mg "len" = b_)(di:mg "range" = b_)
  (GW:ax P w K mg base ay 2 fW nR zLd (Oe t C CT)) (bW:Binds K nR zLd []) (mW:Meth K C "waiting" fW):ax P w K mg base ay 3 f fd zLb (QI t C CT):=by
 refine F.ok QR λaL A _ s H vs Q E hr h=>?_
 ·obtain⟨m,A,S,aa,M,W,dN,hn,q⟩:=h;subst aa;refine⟨_,aG (hV gr rfl (jh rfl di (ab (bw dP rfl cW q_ (ab (cc (pv 0) rfl) af)) af)) (bb (i:=1) QR.nd rfl (aF rfl)) (aG (bZ (bo vV (bw dP rfl cW q_ (ab (iW (pv 0) cM.cl mW GW hr bW .nil aT (ab (pv 1) af)) af)) aq (a7 _)) gV cp))),?_⟩;have h4:=W.good.le;refine bX (id M.obj) λdx fs hm G=>dC (id M.pg) λpa pv ep hp qN=>?_;cases ep;refine vF rfl hm cM.cl cM.program G.program ⟨A.pg,⟨_,rfl,.inr (aB.of hp),_,rfl,by rw[r_ qN];lia,by rw[r_ qN];lia,?_⟩⟩;rw[show ((pv.length:Int)).toNat=S.ck.length by rw[r_ qN,W.len];lia];refine rB (n:=S.ck.length) (λi σ H'=>∃c,σ=[a_ (.ref m),c]/\ah H H') ⟨b_,rfl,ah.refl _⟩ ?_ ?_
  ·rintro i σ H1 hi ⟨c,rfl,s1⟩;rw[lQ];have hk:S.ck[i]?=a_ S.ck[i]:=List.getElem?_eq_getElem hi;exact vM rfl (s1 _ _ hm) (G.ms _ dk) (vr rfl (⟨m,A,S,i,_,rfl,(M.same s1),hk,(hn i _ hk),(λH2 l s2 hl=>dZ l [] rfl (.inl (ae.of hl)) ⟨_,⟨_,rfl,rfl,_,rfl,bQ (λz=>absurd z qc) λz=>⟨_,rfl,s1.trans s2⟩⟩⟩)⟩))
  ·rintro σ H1 ⟨c,rfl,s1⟩;exact q H1 s1
end
structure Qz(B L:List T3):Prop where
 mem:∀x,x∈B↔x∈L
 len:B.length=L.length
theorem ZX{K:u_}{L:List T3}(hl:H l=a_ (.lst us))(hp:Paired (cO H) us L)(hz:L.length<=100000)
  (q:∀r ws B,H r=b_->Qz B L->Paired (cO (upd H r (.lst ws))) ws B->Q (.ref r) (upd H r (.lst ws))):QU K [.ref l] H Q:=
 ⟨l,us,rfl,ae.of hl,by rw[r_ hp,eM];lia,λv hv=>ai (og hp hv) λx _ h=>ai h λp e hp=>⟨p,_,_,_,e,aB.of hp⟩,λr zs nr pm=>ai (Sy pm hp) λB pB hB=>q r zs B nr ⟨λx=>pB.mem_iff,pB.length_eq⟩ (cO.all hB λb xs e=>aE (ah.refl _) nr _ _ e)⟩
section
variable{t:aZ}{C CT:e_}
def O3(t:aZ)(C CT:e_):Sp:=λvs H Q _=>∃m A S,vs=[.ref m]/\aX t C CT H m A S/\gC S/\S.ac.length<=3000/\JO S/\mw S/\∀H' l us B,ah H H'->H l=b_->H' l=a_ (.lst us)->Paired (cO H') us B->Qz B (iX S)->Q (.ref l) H'
theorem Z9:bf zLb zLb (aR Ic):=bz
theorem Zd(F:aU K "before" "before" Ic f fd)(wY:mg "sorted" = b_)
  (GR:ax P w K mg base ay 3 fR BB zLb (QI t C CT)) (kR:x_ K (.ref fR)=c_) (bR:Binds K BB zLb []) (mR:mg "refuse_waiting" = a_ (.ref fR))
  (GO:ax P w K mg base ay 2 fO lD zLb (tN t C CT λS=>mj S S.ps.length)) (kO:x_ K (.ref fO)=c_) (bO:Binds K lD zLb []) (mO:mg "by_own" = a_ (.ref fO))
  (GS:ax P w K mg base ay 2 fS kj zLb (tN t C CT λS=>nF S S.ac.length)) (kS:x_ K (.ref fS)=c_) (bS:Binds K kj zLb []) (mS:mg "by_seen" = a_ (.ref fS))
  (GV:ax P w K mg base ay 2 fV Mq zLb (tN t C CT λS=>oM S 12)) (kV:x_ K (.ref fV)=c_) (bV:Binds K Mq zLb []) (mV:mg "by_over" = a_ (.ref fV))
  (GA:ax P w K mg base ay 3 fA xt zLb (tN t C CT λS=>oJ S S.ac.length)) (kA:x_ K (.ref fA)=c_) (bA:Binds K xt zLb []) (mA:mg "by_ahead" = a_ (.ref fA)):ax P w K mg base ay 4 f fd zLb (O3 t C CT):=by
 refine F.ok Z9 λaL A _ s H vs Q E hr h=>?_
 ·refine Ce h λm A S aa M W dN hn a8=>oA a8 λZ q=>?_;clear h a8;subst aa;have iC:=hr.mono (show 2<=3 by decide);refine let R1:TS:=_;⟨_,ar (dq (cU GR hr rfl mR kR bR .nil aT (ab (pv 0) af))) (pR R1 (aG (bg (bw Nt rfl wY boot_sorted (ab (aW yk (aW yk (aW yk (cU GO iC rfl mO kO bO .nil aT (ab (pv 0) af)) (cU GS iC rfl mS kS bS .nil aT (ab (pv 0) af))) (cU GV iC rfl mV kV bV .nil aT (ab (pv 0) af))) (cU GA hr rfl mA kA bA .nil aT (ab (pv 0) af))) af))))),?_⟩
  have hsz:=eM;refine vr rfl (⟨m,A,S,rfl,M,W,dN,hn,(λH1 s1=>?_)⟩);have D6:S.ac.length<=3000:=li;have jO:=W.good.le;refine vr rfl (⟨m,A,S,rfl,(M.same s1),W,D6,Z,(λH2 l2 u2 s2 n2 h2 p2=>?_)⟩);have mJ:=s1.trans s2;refine vr rfl (⟨m,A,S,rfl,(M.same mJ),W,D6,Z,(λH3 l3 u3 s3 n3 h3 p3=>?_)⟩);have z1:=r_ p2;have y1:=Cv S S.ps.length;have y1':=FR jO dN;have z2:=r_ p3;have y2:=Cb S S.ac.length;refine kL l2 l3 u2 u3 rfl rfl (s3 _ _ h2) h3 (by rw[hsz,z1,z2];dsimp only;lia) λl4 n4=>?_;have s4:=aE (o:=.lst (u2++u3)) (ah.refl H3) n4;have h4:upd H3 l4 (.lst (u2++u3)) l4=a_ (.lst (u2++u3)):=ao;generalize upd H3 l4 (.lst (u2++u3))=H4 at s4 h4 ⊢;have p4:Paired (cO H4) (u2++u3) (mj S S.ps.length++nF S S.ac.length):=tD (cO.all p3 λb xs e=>s4 _ _ e) (cO.all p2 λb xs e=>s4 _ _ (s3 _ _ e));have i9:=(mJ.trans s3).trans s4;refine vr rfl (⟨m,A,S,rfl,(M.same i9),W,D6,Z,(λH5 l5 u5 s5 n5 h5 p5=>?_)⟩);have z4:=r_ p4;have z5:=r_ p5;have y5:=Cd Z.jr 12;rw[List.length_append (as:=mj _ _)]at z4;refine kL l4 l5 _ u5 rfl rfl (s5 _ _ h4) h5 (by rw[hsz,z4,z5];dsimp only;lia) λl6 n6=>?_;have s6:=aE (o:=.lst (u2++u3++u5)) (ah.refl H5) n6;have h6:upd H5 l6 (.lst (u2++u3++u5)) l6=a_ (.lst (u2++u3++u5)):=ao;generalize upd H5 l6 (.lst (u2++u3++u5))=H6 at s6 h6 ⊢;have p6:Paired (cO H6) (u2++u3++u5) (mj S S.ps.length++nF S S.ac.length++oM S 12):=tD (cO.all p5 λb xs e=>s6 _ _ e) (cO.all p4 λb xs e=>s6 _ _ (s5 _ _ e));have A6:=(i9.trans s5).trans s6;refine vr rfl (⟨m,A,S,rfl,(M.same A6),W,D6,Z,(λH7 l7 u7 s7 n7 h7 p7=>?_)⟩);have z6:=r_ p6;have z7:=r_ p7;have y7:=Gj S S.ac.length;rw[List.length_append (bs:=oM _ _),List.length_append (as:=mj _ _)]at z6;refine kL l6 l7 _ u7 rfl rfl (s7 _ _ h6) h7 (by rw[hsz,z6,z7];dsimp only;lia) λl8 n8=>?_;have s8:=aE (o:=.lst (u2++u3++u5++u7)) (ah.refl H7) n8;have h8:upd H7 l8 (.lst (u2++u3++u5++u7)) l8=a_ (.lst (u2++u3++u5++u7)):=ao;generalize upd H7 l8 (.lst (u2++u3++u5++u7))=H8 at s8 h8 ⊢;have p8:Paired (cO H8) (u2++u3++u5++u7) (iX S):=tD (cO.all p7 λb xs e=>s8 _ _ e) (cO.all p6 λb xs e=>s8 _ _ (s7 _ _ e));have UL:=(A6.trans s7).trans s8;have lb:(iX S).length<=100000:=by unfold iX;rw[List.length_append,List.length_append,List.length_append];lia
  exact ZX h8 p8 lb λr ws B nr hB hP=>q _ r ws B (aE UL nr) (UL.free nr) ao hP hB
end
structure lE(R:List Int)(B:List T3)(H:Hp)(kvs:List (Key×V)):Prop where
 got:∀k v,bh kvs k=a_ v->∃(x:T3) (p:e_),x∈B/\x.1∉R/\k=a_ x.2.1/\v=.ref p/\H p=a_ (.tup [.int x.1,.str x.2.2])
 all:∀x∈B,x.1∉R->∃v,bh kvs (a_ x.2.1)=a_ v
theorem lE.same{B:List T3}{kvs:List (Key×V)}(h:lE R B H kvs)(s:∀b xs,H b=a_ (.tup xs)->H' b=a_ (.tup xs)):lE R B H' kvs:=
 ⟨λk v e=>Qc (h.got k v e) λx p h1 h2 h3 h4 h5=>⟨x,p,h1,h2,h3,h4,s _ _ h5⟩,h.all⟩
theorem lE.nil:lE R [] H []:=⟨λk v e=>(by cases e),λx h=>(by cases h)⟩
theorem lE.skip{B:List T3}{kvs:List (Key×V)}{x:T3}(h:lE R B H kvs)(hx:x.1∈R):lE R (B++[x]) H kvs:=
 ⟨λk v e=>bX (h.got k v e) λx p h1 r=>⟨x,p,List.mem_append.mpr (.inl h1),r⟩,λy hy n=>by
  rcases List.mem_append.mp hy with z | z
  ·exact h.all y z n
  ·rw[List.mem_singleton.mp z]at n;exact absurd hx n⟩
theorem lE.put{B:List T3}{kvs:List (Key×V)}{x:T3}(h:lE R B H kvs)(hx:x.1∉R)(hp:H p=a_ (.tup [.int x.1,.str x.2.2])):lE R (B++[x]) H (putK kvs (a_ x.2.1) (.ref p)):=by
 refine⟨λk v e=>?_,λy hy n=>?_⟩
 ·rw[ou]at e
  split at e
  ·rename_i ek
   cases e;exact⟨x,p,by simp,hx,ek,rfl,hp⟩
  ·exact bX (h.got k v e) λy p h1 r=>⟨y,p,List.mem_append.mpr (.inl h1),r⟩
 ·rw[ou]
  split
  ·exact⟨_,rfl⟩
  ·rename_i ne
   rcases List.mem_append.mp hy with z | z
   ·exact h.all y z n
   ·rw[List.mem_singleton.mp z]at ne;exact absurd rfl ne
theorem PH:∀(ps kvs:List (Key×V)) (k:Key),(bh (ma kvs ps) k).isSome=((bh kvs k).isSome||ps.any λp=>decide (k=p.1))
 | [],kvs,k=>by simp[ma]
 | p::ps,kvs,k=>by
  show (bh (ma (putK kvs p.1 p.2) ps) k).isSome=_;rw[PH ps,ou,List.any_cons]
  by_cases e:k=p.1
  ·simp[e]
  ·simp[e]
theorem P':∀{R:List Int} {ys:List V},Paired (λy (i:Int)=>∃b,y=V.ref b/\H b=a_ (.tup [.int i,.bl c_])) ys R->DP H (R.map λi=>((a_ i:Key),V.bl c_)) ys
 | _,_,.nil=>trivial
 | _,_,.cons h r=>⟨h,P' r⟩
theorem abo(R:List Int)(i:Int):(!(bh (ma [] (R.map λi=>((a_ i:Key),V.bl c_))) (a_ i)).isSome)=decide (i∉R):=by
 rw[PH,ZU]
 by_cases h:i∈R
 ·rw[decide_eq_false λz=>z h];simp[h]
 ·rw[decide_eq_true h];simp[h];exact λx hx e=>h (e ▸ hx)
def yy(H:Hp)(y:V)(i:Int):Prop:=∃b,y=V.ref b/\H b=a_ (.tup [.int i,.bl c_])
theorem yy.all(h:Paired (yy H) ys R)(k:∀b xs,H b=a_ (.tup xs)->H' b=a_ (.tup xs)):Paired (yy H') ys R:=Paired.b9 h λ_ _ q=>ai q λp e h=>⟨p,e,k _ _ h⟩
def O4:Sp:=λvs H Q _=>∃r b R us B,vs=[.ref r,.ref b]/\H r=a_ (.lst (R.map V.int))/\R.length<=3000/\H b=a_ (.lst us)/\Paired (cO H) us B/\B.length<=100000/\
 ∀H' d kvs,ah H H'->H d=b_->H' d=a_ (.dK kvs)->lE R B H' kvs->kvs.length<=B.length->Q (.ref d) H'
theorem xZ:bf ["row","befores","placed","found","one","other","why"] ["row","befores"] (aR Ie):=bz
theorem Q7:(["number"]:List Str).Nodup:=dk
theorem abc:q8 "dict" = a_ (.type "dict"):=by kernel_rfl
theorem Ze(F:aU K "pairs_ahead" "pairs_ahead" Ie f fd)(hdc:mg "dict" = b_):ax P w K mg base ay 1 f fd zLn O4:=by
 refine F.ok xZ λaL A _ s H vs Q E hr h=>?_
 ·refine fj h λr b R us B aa=>Qd aa λe hR hz hb hp hB q=>?_;clear h aa;subst e
  refine let R1:TS:=_;let R2:TS:=_;let R3:TS:=_;⟨_,ar (bp (i:=2) xZ.nd rfl (aF rfl) (pZ (Yb rfl) rfl hdc abc (ab (g6 (N:=["number"]) (idx:=[]) rfl (cZ.of (by kernel_rfl)) (gF (aP _)) (nC (pv 0))
    (λ_ _ _ _=>bb (i:=0) Q7 rfl (aF rfl) (.inr rfl)) (λ_ _ _ _=>gZ) λ_ _ _ _=>iH (ab (pv 0) (ab nG af))) af)))
   (pR R3 (ar (bp (i:=3) xZ.nd rfl (aF rfl) z8) (pR R2 (ar (hV gr rfl (nC (pv 1)) (kX rfl (dn (bb (i:=4) xZ.nd rfl (aF rfl)) (dn (bb (i:=5) xZ.nd rfl (aF rfl)) (dn (bb (i:=6) xZ.nd rfl (aF rfl)) kQ)))) (pR R1 (aG (bZ (IT (Gu (g9 hr) (pv 4) (pv 2))) (aG (Ai (g9 hr) (pv 3) (pv 5) (iH (ab (pv 4) (ab (pv 6) af))) rfl)) cp)))) (aG (bg (pv 3))))))),?_⟩
  have hsz:=eM;refine⟨_,rfl,r,rfl,⟨_,ae.of hR⟩,eN (n:=R.length) (λi ys H'=>i<=R.length/\ah H H'/\Paired (yy H') ys (R.take i)) (by rw[hsz];lia) (eT (aP _) (ah.refl _) .nil) ?_ ?_ ?_ ?_ ?_⟩
  ·rintro i ys H' ⟨_,_,e⟩;rw[r_ e,List.length_take];exact xG _ _
  ·rintro i ys H' hi ⟨_,s4,_⟩;exact eO _ (V.int R[i]) (ae.of (s4 _ _ hR)) (by rw[List.getElem?_map,List.getElem?_eq_getElem hi];rfl)
  ·rintro ys H' ⟨_,s4,_⟩;exact aA _ (ae.of (s4 _ _ hR)) (by rw[List.length_map];exact aw _)
  ·rintro i ys H1 hi ⟨_,s4,e⟩ v H2 ⟨rfl,hx⟩;have eV:=hx _ (ae.of (s4 _ _ hR));rw[List.getElem?_map,List.getElem?_eq_getElem hi]at eV;cases eV;refine vr rfl ⟨sl (n:=2),λtp ht=>⟨hi,aE s4 ht,?_⟩⟩;rw[List.take_add_one,List.getElem?_eq_getElem hi];exact kI (yy.all e λb xs e=>aE (ah.refl _) ht _ _ e) ⟨tp,rfl,ao⟩
  ·rintro ys H1 ⟨_,s1,e⟩;rw[List.take_length]at e;have yl:=r_ e;refine⟨by rw[hsz];lia,λpl U1=>⟨pl,ys,_,rfl,ao,P' (yy.all e λb xs e=>aE (ah.refl _) U1 _ _ e),by rw[hsz,List.length_map];lia,λd nd=>?_⟩⟩;have s2:=aE (o:=.lst ys) s1 U1;generalize upd H1 pl (.lst ys)=H2 at s2 nd ⊢;have s3:=aE (o:=.dK (ma [] (R.map λi=>((a_ i:Key),V.bl c_)))) s2 nd;have hd:upd H2 d (.dK (ma [] (R.map λi=>((a_ i:Key),V.bl c_)))) d=a_ (.dK (ma [] (R.map λi=>((a_ i:Key),V.bl c_)))):=ao;generalize upd H2 d (.dK (ma [] (R.map λi=>((a_ i:Key),V.bl c_))))=H3 at s3 hd ⊢;refine λlf nf=>⟨_,rfl,b,rfl,⟨_,ae.of (by rw[ag (cG (s3 _ _ hb) nf)];exact s3 _ _ hb)⟩,?_⟩
   let W1:IV:=λi σ H'=>i<=B.length/\∃a c y kvs,σ=[a_ (.ref r),a_ (.ref b),a_ (.ref d),a_ (.ref lf),a,c,y]/\ah H3 H'/\H' lf=a_ (.dK kvs)/\lE R (B.take i) H' kvs/\kvs.length<=i
   refine x9 (xs:=us) W1 ⟨aP _,b_,b_,b_,[],rfl,aE (ah.refl _) nf,ao,lE.nil,aP _⟩ ?_ ?_ ?_
   ·rintro i σ H' _ ⟨_,a,c,y,kvs,rfl,s4,_⟩;exact ae.of (s4 _ _ (s3 _ _ hb))
   ·rintro i x σ H' hx ⟨_,a,c,y,kvs,rfl,s4,hk,hA,sR⟩;refine ai (jg hp hx) λz sM aa=>ai aa λp ex qM=>?_;subst ex;have hi:i<B.length:=(List.getElem?_eq_some_iff.mp sM).1;refine⟨p,_,rfl,aB.of (s4 _ _ (s3 _ _ qM)),rfl,_,_,rfl,_,_,rfl,_,[],rfl,rfl,⟨_,rfl,_,rfl,d,_,rfl,dR.k (k:=a_ z.1) (s4 _ _ hd),_,rfl,?_⟩⟩;rw[abo];have tk:B.take (i+1)=B.take i++[z]:=by rw[List.take_add_one,sM];rfl
    refine bQ (λe=>?_) λe=>?_
    ·refine⟨_,rfl,_,rfl,sl (n:=2),λtp ht=>⟨_,rfl,_,rfl,lf,_,rfl,uA.k (k:=a_ z.2.1) (by rw[ag (cG hk ht)];exact hk) (by rw[hsz];lia),hi,_,_,_,_,rfl,gX (aE s4 ht) nf,ao,?_,cx (pU _ _ _) (qX sR)⟩⟩
     ·rw[tk];have nt:tp≠lf:=λz=>by rw[z,hk]at ht;cases ht
      have up:∀b xs,H' b=a_ (.tup xs)->upd (upd H' tp (.tup [.int z.1,.str z.2.2])) lf (.dK (putK kvs (a_ z.2.1) (.ref tp))) b=a_ (.tup xs):=λb xs e=>by
       rw[ag (λz=>by rw[z,hk]at e;cases e),ag (λz=>by rw[z,ht]at e;cases e)];exact e
      exact(hA.same up).put e (by rw[ag nt];exact ao)
    ·refine⟨hi,_,_,_,kvs,rfl,s4,hk,?_,vk sR⟩;rw[tk];exact hA.skip (Classical.not_not.mp e)
   ·rintro σ H' ⟨_,a,c,y,kvs,rfl,s4,hk,hA,sR⟩;have ul:=r_ hp;rw[ul,List.take_length]at hA;exact vr rfl (q H' lf kvs (s3.trans s4) (s3.free nf) hk hA li)
theorem PF{kvs:List (Key×V)}{kv:Key×V}(h:kv∈kvs):∃v,bh kvs kv.1=a_ v:=by
 have:=xX kv.1 kvs;rw[List.any_eq_true.mpr ⟨kv,h,by simp⟩]at this;exact MF.mp this.symm
theorem acr{kvs:List (Key×V)}{k:Key}(h:bh kvs k=a_ v):k∈kvs.map (·.1):=by
 have:=xX k kvs;rw[h]at this;exact ai (List.any_eq_true.mp this) λx hx e=>List.mem_map.mpr ⟨x,hx,of_decide_eq_true e⟩
theorem aaS{kvs:List (Key×V)}(h:∀kv∈kvs,∃b:Int,kv.1=a_ b):(kvs.map λkv=>kV kv.1)=(kvs.map λkv=>kv.1.getD 0).map V.int:=by
 rw[List.map_map];refine List.map_congr_left λkv hk=>oE (h kv hk) λb e=>?_;show kV kv.1=V.int (kv.1.getD 0);rw[e];rfl
structure qC(kvs:List (Key×V))(Vs:List Int)(kc:List (Key×V)):Prop where
 nd:Vs.Nodup
 sub:∀m∈Vs,∃v,bh kvs (a_ m)=a_ v
 is:∀m:Int,bh kc (a_ m)=b_↔m∉Vs
 ix:∀k v,bh kc k=a_ v->∃(i:Nat) (m:Int),k=a_ m/\v=.int (i:Nat)/\Vs[i]?=a_ m
 len:kc.length<=Vs.length
theorem qC.le{kvs kc:List (Key×V)}(h:qC kvs Vs kc):Vs.length<=kvs.length:=by
 have:=List.Nodup.length_le_of_subset (l₁:=Vs.map a_) (l₂:=kvs.map (·.1)) (List.Pairwise.map _ (λa b z e=>z (cu e)) h.nd) (λk hk=>by
  refine ai (List.mem_map.mp hk) λm hm e=>oE (h.sub m hm) λv hv=>?_;rw[<-e];exact acr hv)
 rwa[List.length_map,List.length_map]at this
theorem qC.nil{kvs:List (Key×V)}:qC kvs [] []:=⟨List.nodup_nil,λm h=>(by cases h),λm=>⟨λ_ z=>(by cases z),λ_=>rfl⟩,λk v e=>(by cases e),aw _⟩
theorem qC.put{kvs kc:List (Key×V)}{n:Int}(h:qC kvs Vs kc)(hn:n∉Vs)(hv:bh kvs (a_ n)=a_ v):qC kvs (Vs++[n]) (putK kc (a_ n) (.int (Vs.length:Nat))):=by
 refine⟨List.nodup_append.mpr ⟨h.nd,by simp,λa ha b hb=>by rw[List.mem_singleton.mp hb];exact λz=>hn (z ▸ ha)⟩,λm hm=>?_,λm=>?_,λk v e=>?_,?_⟩
 ·rcases List.mem_append.mp hm with z | z
  ·exact h.sub m z
  ·rw[List.mem_singleton.mp z];exact⟨v,hv⟩
 ·rw[ou]
  by_cases e:m=n
  ·subst e;simp
  ·rw[if_neg λz=>e (cu z),h.is];simp[e]
 ·rw[ou]at e
  split at e
  ·rename_i ek
   cases e;exact⟨_,n,ek,rfl,by rw[List.getElem?_append_right (aw _),oa];rfl⟩
  ·exact dC (h.ix k v e) λi m h1 h2 h3=>⟨i,m,h1,h2,by rw[List.getElem?_append_left (List.getElem?_eq_some_iff.mp h3).1];exact h3⟩
 ·rw[List.length_append];exact cx (pU _ _ _) (qX h.len)
def mx(H:Hp)(v:V)(x:T3):Prop:=∃p,v=.ref p/\H p=a_ (.tup [.int x.1,.str x.2.2])
theorem mx.all{L:List T3}(h:Paired (mx H) vs L)(k:∀b xs,H b=a_ (.tup xs)->H' b=a_ (.tup xs)):Paired (mx H') vs L:=Paired.b9 h λ_ _ q=>ai q λp e h=>⟨p,e,k _ _ h⟩
structure wc(B X:List T3)(Vs:List Int)(n:Int):Prop where
 len:X.length=Vs.length
 at':∀(k:Nat) x,X[k]?=a_ x->x∈B/\Vs[k]?=a_ x.2.1/\(Vs++[n])[k+1]?=a_ x.1
theorem wc.snoc{B X:List T3}{n:Int}{x:T3}(h:wc B X Vs n)(hx:x∈B)(e:x.2.1=n):wc B (X++[x]) (Vs++[n]) x.1:=by
 refine⟨by rw[List.length_append,List.length_append,h.len];rfl,λk y hy=>?_⟩
 by_cases z:k<X.length
 ·rw[List.getElem?_append_left z]at hy;have h1:=h.at' k y hy;have h2:=(List.getElem?_eq_some_iff.mp h1.2.1).1;exact⟨h1.1,by rw[List.getElem?_append_left h2];exact h1.2.1,by rw[List.getElem?_append_left (by rw[List.length_append];show _<_+1;lia)];exact h1.2.2⟩
 ·have z2:k=X.length:=by
   have:=(List.getElem?_eq_some_iff.mp hy).1;rw[List.length_append]at this;have:k<X.length+1:=this;lia
  subst z2;rw[List.getElem?_append_right (aw _),oa]at hy;cases hy;refine⟨hx,?_,?_⟩
  ·rw[h.len,List.getElem?_append_right (aw _),oa,e];rfl
  ·rw[List.getElem?_append_right (by rw[List.length_append,h.len];exact aw _),List.length_append,h.len];show [x.1][Vs.length+1-(Vs.length+1)]?=_;rw[oa];rfl
structure RingM(B Y:List T3):Prop where
 two:2<=Y.length
 sub:∀x∈Y,x∈B
 nd:(Y.map (·.1)).Nodup
 sD:∀(k:Nat) x y,Y[k]?=a_ y->Y[if k=0 then Y.length-1 else k-1]?=a_ x->x.2.1=y.1
theorem wc.ring{B X:List T3}{n:Int}{i:Nat}(h:wc B X Vs n)(nd:Vs.Nodup)(hi:Vs[i]?=a_ n)(wQ:∀x∈B,x.1≠x.2.1):RingM B (X.drop i).reverse:=by
 have ze:=(List.getElem?_eq_some_iff.mp hi).1;have hl:=h.len;have lY:(X.drop i).reverse.length=Vs.length-i:=by rw[List.length_reverse,List.length_drop,hl]
 have at':∀{k y},(X.drop i).reverse[k]?=a_ y->k<Vs.length-i/\X[Vs.length-1-k]?=a_ y:=λ{k y} e=>by
  have hk:=(List.getElem?_eq_some_iff.mp e).1;rw[lY]at hk;rw[List.getElem?_reverse (by rw[List.length_drop];lia),List.getElem?_drop,List.length_drop,hl,show i+(Vs.length-i-1-k)=Vs.length-1-k by lia]at e;exact⟨hk,e⟩
 have last:(Vs++[n])[Vs.length]?=a_ n:=by rw[List.getElem?_append_right (aw _),oa];rfl
 have ne:∀{a b u v},Vs[a]?=a_ u->Vs[b]?=a_ v->a≠b->u≠v:=λ{a b u v} ha hb Me e=>by
  subst e;obtain⟨a1,a2⟩:=List.getElem?_eq_some_iff.mp ha;obtain⟨b1,b2⟩:=List.getElem?_eq_some_iff.mp hb;rcases Xn Me with c | c
  ·exact List.pairwise_iff_getElem.mp nd a b a1 b1 c (a2.trans b2.symm)
  ·exact List.pairwise_iff_getElem.mp nd b a b1 a1 c (b2.trans a2.symm)
 have sD:∀(k:Nat) x y,(X.drop i).reverse[k]?=a_ y->(X.drop i).reverse[if k=0 then (X.drop i).reverse.length-1 else k-1]?=a_ x->x.2.1=y.1:=λk x y hy hx=>by
  obtain⟨hk,hy⟩:=at' hy;have h1:=(h.at' _ _ hy).2.2
  by_cases z:k=0
  ·subst z;rw[if_pos rfl,lY]at hx;obtain⟨_,hx⟩:=at' hx;have h2:=(h.at' _ _ hx).2.1;rw[show Vs.length-1-(Vs.length-i-1)=i by lia,hi]at h2;rw[show Vs.length-1-0+1=Vs.length by lia,last]at h1;exact(cu h2).symm.trans (cu h1)
  ·rw[if_neg z]at hx;obtain⟨_,hx⟩:=at' hx;have h2:=(h.at' _ _ hx).2.1;rw[show Vs.length-1-k+1=Vs.length-1-(k-1) by lia,List.getElem?_append_left li,h2]at h1;exact cu h1
 refine⟨?_,λx hx=>?_,?_,sD⟩
 ·rw[lY];refine vh λz=>?_;obtain⟨x,hx⟩:∃x,(X.drop i).reverse[0]?=a_ x:=⟨_,List.getElem?_eq_getElem (by rw[lY];lia)⟩;have:=sD 0 x x hx (by rw[if_pos rfl,lY,show Vs.length-i-1=0 by lia];exact hx);obtain⟨_,mU⟩:=at' hx;exact wQ x (h.at' _ _ mU).1 this.symm
 ·obtain⟨k,hk⟩:=List.getElem?_of_mem (List.mem_of_mem_drop (List.mem_reverse.mp hx));exact(h.at' _ _ hk).1
 ·rw[List.map_reverse,List.nodup_iff_pairwise_ne,List.pairwise_reverse,List.pairwise_map,List.pairwise_iff_getElem];intro a b ha hb Me e;rw[List.length_drop]at ha hb;have g:∀c (hc:c<X.length-i),(Vs++[n])[i+c+1]?=a_ ((X.drop i)[c]'(by rw[List.length_drop];exact hc)).1:=λc hc=>(h.at' (i+c) _ (by rw[<-List.getElem?_drop];exact List.getElem?_eq_getElem _)).2.2;have ga:=g a ha;have gb:=g b hb;rw[List.getElem?_append_left li]at ga
  by_cases z:i+b+1<Vs.length
  ·rw[List.getElem?_append_left z]at gb;exact ne gb ga li e
  ·rw[show i+b+1=Vs.length by lia,last]at gb;have e1:=cu gb;rw[<-e1]at e;exact ne hi ga li e
theorem cutD(us:List V)(i:Nat):ik us (a_ (i:Int)) b_=us.drop i:=by
 unfold ik;rw[HT.CP,HT.O9]
 by_cases h:i<=us.length
 ·rw[nZ h,List.take_of_length_le (by rw[List.length_drop];exact aw _)]
 ·rw[Nat.min_eq_right li,oa,List.take_zero,List.drop_eq_nil_of_le li]
theorem NT{α β:Type}{F:α->β->Prop}:∀{l:List α} {r:List β} (i:Nat),Paired F l r->Paired F (l.drop i) (r.drop i)
 | _,_,0,h=>h
 | _,_,_+1,.nil=>.nil
 | _,_,i+1,.cons _ t=>NT i t
theorem Ot{α β:Type}{F:α->β->Prop}:∀{l:List α} {r:List β},Paired F l r->Paired F l.reverse r.reverse
 | _,_,.nil=>.nil
 | _,_,.cons h t=>by rw[List.reverse_cons,List.reverse_cons];exact kI (Ot t) h
def QH:Sp:=λvs H Q _=>∃(r b:e_) (R:List Int) (us:List V) (B:List T3),vs=[.ref r,.ref b]/\H r=a_ (.lst (R.map V.int))/\R.length<=3000/\H b=a_ (.lst us)/\Paired (cO H) us B/\B.length<=100000/\
 (∃x∈B,x.1∉R)/\(∀x∈B,x.1∉R->∃y∈B,y.1∉R/\y.2.1=x.1)/\(∀x∈B,x.1≠x.2.1)/\∀H' d ts Y,ah H H'->H d=b_->H' d=a_ (.tup ts)->Paired (mx H') ts Y->RingM B Y->Q (.ref d) H'
theorem yh:bf ["row","befores","ahead","number","way","come_to"] zLn (aR Jq):=bz
theorem ab4(F:aU K "ring_of" "ring_of" Jq f fd)(LS:mg "min" = b_)(xj:mg "list" = b_)(cW:mg "len" = b_)(htu:mg "tuple" = b_)(hrv:mg "reversed" = b_)
  (GA:ax P w K mg base ay 1 fA xt zLn O4) (kA:x_ K (.ref fA)=c_) (bA:Binds K xt zLn []) (mA:mg "pairs_ahead" = a_ (.ref fA)):ax P w K mg base ay 2 f fd zLn QH:=by
 refine F.ok yh λaL A _ s H vs Q E hr h=>?_
 ·refine fj h λr b R us B aa=>Qd aa λe hR hz hb hp hB a8=>nK a8 λhx0 ago wQ q=>?_;clear h aa a8;subst e;refine let R1:TS:=_;let R2:TS:=_;let R3:TS:=_;let R4:TS:=_;let R5:TS:=_;let R6:TS:=_;let R7:TS:=_;⟨_,ar (bp (i:=2) yh.nd rfl (aF rfl) (cU GA hr rfl mA kA bA .nil aT (ab (pv 0) (ab (pv 1) af)))) (pR R7 (ar (bp (i:=3) yh.nd rfl (aF rfl) (bw (OH rfl) rfl LS boot_min (ab (pZ (YK rfl) rfl xj G9 (ab (pv 2) af)) af))) (pR R6 (ar (bp (i:=4) yh.nd rfl (aF rfl) (dy af)) (pR R5 (ar (bp (i:=5) yh.nd rfl (aF rfl) z8) (pR R4 (ar (Hr gr (IT (Gu (g9 hr) (pv 3) (pv 5))) (pR R3 (ar (Ai (g9 hr) (pv 5) (pv 3) (bw dP rfl cW q_ (ab (pv 4) af)) rfl) (pR R2 (ar (dq (iK m_ n_ o_ lV (pv 4) (ab (vE (g9 hr) (pv 2) (pv 3) λ_ _=>rfl) af))) (pR R1 (aG (bp (i:=3) yh.nd rfl (aF rfl) (aJ cq (vE (g9 hr) (pv 2) (pv 3) λ_ _=>rfl) aq))))))))) (aG (bg (Y8 rfl rfl htu rfl hrv (ab (x8 CM (pv 4) (vC (vE (g9 hr) (pv 5) (pv 3) λ_ _=>rfl)) Aj) af)))))))))))),?_⟩
  have hsz:=eM;refine⟨_,rfl,_,rfl,⟨r,b,R,us,B,rfl,hR,hz,hb,hp,hB,λH1 d kvs s1 nd hd hA sR=>?_⟩⟩;have hk:∀kv∈kvs,∃b:Int,kv.1=a_ b:=λkv h=>oE (PF h) λv e=>Qc (hA.got _ _ e) λx p _ _ h3 _ _=>⟨_,h3⟩;refine⟨_,rfl,d,kvs,rfl,hd,λla nla=>⟨la,kvs.map λkv=>kv.1.getD 0,rfl,ae.of (by rw[<-aaS hk];exact ao),?_,λM hM _=>?_⟩⟩
  ·refine ai hx0 λx hx nx=>oE (hA.all x hx nx) λv e=>?_;cases kvs with
   | nil=>cases e
   | cons a l=>exact λz=>nomatch z
  obtain⟨v0,hv0⟩:∃v,bh kvs (a_ M)=a_ v:=by
   refine ai (List.mem_map.mp hM) λkv VP e=>oE (hk kv VP) λb eb=>?_;rw[eb]at e;rw[<-show b=M from e,<-eb];exact PF VP
  have s2:=aE (o:=.lst (kvs.map λkv=>kV kv.1)) (ah.refl H1) nla;generalize upd H1 la (.lst (kvs.map λkv=>kV kv.1))=H2 at s2 ⊢;have hd2:=s2 _ _ hd;refine⟨qc,λlw nw=>λlc nc=>?_⟩;have EC:lw≠lc:=λz=>by rw[<-z,ao]at nc;cases nc
  have Ls:H2 lc=none:=by rwa[ag (cB EC)]at nc
  refine⟨λμ σ H'=>∃(n:Int) (Vs:List Int) (ws:List V) (kc:List (Key×V)) (X:List T3),σ=[a_ (.ref r),a_ (.ref b),a_ (.ref d),a_ (.int n),a_ (.ref lw),a_ (.ref lc)]/\μ+Vs.length=kvs.length/\ah H2 H'/\H' lw=a_ (.lst ws)/\ws.length=Vs.length/\H' lc=a_ (.dK kc)/\qC kvs Vs kc/\wc B X Vs n/\Paired (mx H') ws X/\∃v,bh kvs (a_ n)=a_ v,⟨kvs.length,M,[],[],[],[],rfl,rfl,aE (aE (ah.refl _) nw) nc,by rw[ag EC];exact ao,rfl,ao,qC.nil,⟨rfl,λk x e=>(by cases e)⟩,.nil,v0,hv0⟩,?_⟩;rintro μ σ H' ⟨n,Vs,ws,kc,X,rfl,hμ,s3,hw,jN,hc,D,hG,hP,v,hv⟩;obtain⟨x,p,Vw,LF,ex,ev,iQ⟩:=(hA.got _ _ hv);subst ev;have hle:=D.le;refine⟨_,rfl,_,rfl,lc,_,rfl,dR.k (k:=a_ n) hc,_,rfl,?_⟩;cases e:bh kc (a_ n)with
  | none=>
   have hn:=(D.is n).mp e;have D2:=D.put hn hv;have Tw:=D2.le;rw[List.length_append]at Tw;have aje:Vs.length+1<=kvs.length:=Tw;refine r6 ⟨λσ' H'=>∃μ',μ' < μ/\∃(n:Int) (Vs:List Int) (ws:List V) (kc:List (Key×V)) (X:List T3),σ'=[a_ (.ref r),a_ (.ref b),a_ (.ref d),a_ (.int n),a_ (.ref lw),a_ (.ref lc)]/\μ'+Vs.length=kvs.length/\ah H2 H'/\H' lw=a_ (.lst ws)/\ws.length=Vs.length/\H' lc=a_ (.dK kc)/\qC kvs Vs kc/\wc B X Vs n/\Paired (mx H') ws X/\∃v,bh kvs (a_ n)=a_ v,λσ' H' z=>z,⟨_,rfl,lw,ws,rfl,.inl (ae.of hw),_,rfl,_,rfl,lc,_,rfl,uA.k (k:=a_ n) hc (by rw[hsz];have:=D.len;lia),?_⟩⟩;have s4:=gX (o:=.dK (putK kc (a_ n) (.int (ws.length:Nat)))) s3 Ls;have uQ:upd H' lc (.dK (putK kc (a_ n) (.int (ws.length:Nat)))) lw=a_ (.lst ws):=by rw[ag EC];exact hw
   have V0:upd H' lc (.dK (putK kc (a_ n) (.int (ws.length:Nat)))) lc=a_ (.dK (putK kc (a_ n) (.int (ws.length:Nat)))):=ao;have Mh:∀b xs,H' b=a_ (.tup xs)->upd H' lc (.dK (putK kc (a_ n) (.int (ws.length:Nat)))) b=a_ (.tup xs):=λb xs e=>by rw[ag (λz=>by rw[z,hc]at e;cases e)];exact e
   generalize upd H' lc (.dK (putK kc (a_ n) (.int (ws.length:Nat))))=H4 at s4 uQ V0 Mh ⊢;refine⟨_,rfl,.inl ⟨rfl,_,ae.of uQ⟩,_,rfl,_,rfl,d,.ref p,rfl,?_,lw,ws,.ref p,rfl,rfl,uQ,by rw[hsz];lia,?_⟩
   ·rw[<-hv];exact dR.k (k:=a_ n) (s4 _ _ hd2)
   have s5:=gX (o:=.lst (ws++[.ref p])) s4 nw;have y6:upd H4 lw (.lst (ws++[.ref p])) lw=a_ (.lst (ws++[.ref p])):=ao;have E9:upd H4 lw (.lst (ws++[.ref p])) lc=a_ (.dK (putK kc (a_ n) (.int (ws.length:Nat)))):=by rw[ag (cB EC)];exact V0
   have V8:∀b xs,H' b=a_ (.tup xs)->upd H4 lw (.lst (ws++[.ref p])) b=a_ (.tup xs):=λb xs e=>by rw[ag (λz=>by have:=Mh b xs e;rw[z,uQ]at this;cases this)];exact Mh b xs e
   generalize upd H4 lw (.lst (ws++[.ref p]))=H5 at s5 y6 E9 V8 ⊢;refine⟨_,rfl,_,rfl,d,.ref p,rfl,?_,rT (v:=.int x.1) (aB.of (s5 _ _ (s2 _ _ iQ))) rfl ⟨μ-1,li,x.1,Vs++[n],_,_,X++[x],rfl,?_,s5,y6,?_,E9,?_,hG.snoc Vw (cu ex).symm,kI (mx.all hP V8) ⟨p,rfl,s5 _ _ (s2 _ _ iQ)⟩,?_⟩⟩
   ·rw[<-hv];exact dR.k (k:=a_ n) (s5 _ _ hd2)
   ·rw[List.length_append];show μ-1+(Vs.length+1)=_;lia
   ·rw[List.length_append,List.length_append,jN];rfl
   ·rw[jN];exact D2
   ·exact aO (ago x Vw LF) λy hyB LD hy=>by rw[<-hy];exact hA.all y hyB LD
  | some vi=>
   refine dC (D.ix _ _ e) λi m em ei hi=>?_;cases em;subst ei;refine dJ ⟨_,rfl,_,rfl,_,rfl,lc,.int (i:Nat),rfl,?_,_,rfl,lw,ws,rfl,ae.of hw,λl1 n1=>⟨l1,_,rfl,ae.of ao,λp np=>?_⟩⟩
   ·rw[<-e];exact dR.k (k:=a_ n) hc
   have sn:=λo=>aE (o:=o) (aE (ah.refl H') n1) np;refine q _ p _ _ (aE (aE ((s1.trans s2).trans s3) n1) np) ((aE ((s1.trans s2).trans s3) n1).free np) ao ?_ (hG.ring D.nd hi wQ);have pr:=Ot (NT i (mx.all hP λb xs e=>sn (.tup (ik ws (a_ (i:Int)) b_).reverse) _ _ e));rw[<-cutD]at pr;exact pr
def cg(B:List T3)(R:List Int)(b:Int):Nat:=B.countP λx=>decide (x.2.1=b/\x.1∉R)
def cQ(B:List T3)(a:Int):List Int:=(B.filter λx=>decide (x.1=a)).map (·.2.1)
theorem Aa{B:List T3}{b:Int}:cg B R b=0↔∀x∈B,x.2.1=b->x.1∈R:=by
 unfold cg;rw[List.countP_eq_zero];constructor
 ·intro h x hx e;have:=h x hx;simp[e]at this;exact this
 ·intro h x hx z;have:=of_decide_eq_true z;exact this.2 (h x hx this.1)
theorem Ci{n:Int}(hn:n∉R)(b:Int):∀B:List T3,cg B R b=cg B (R++[n]) b+(cQ B n).count b
 | []=>rfl
 | x::B=>by
  have ih:=Ci hn b B;unfold cg cQ at ih ⊢;rw[List.countP_cons,List.countP_cons,List.filter_cons,ih]
  by_cases e1:x.1=n
  ·have d1:decide (x.1=n)=true:=decide_eq_true e1;rw[d1];simp only[if_true,List.map_cons,List.count_cons]
   by_cases e2:x.2.1=b
   ·simp[e1,e2,hn];omega
   ·simp[e2]
  ·have d1:decide (x.1=n)=false:=decide_eq_false e1;rw[d1];simp only[Fw,if_false]
   by_cases e2:x.2.1=b
   ·by_cases e3:x.1∈R
    ·simp[e2,e3]
    ·simp[e2,e3,e1];omega
   ·simp[e2]
theorem Pw(B:List T3)(x:T3)(b:Int):cg (B++[x]) [] b=cg B [] b+if x.2.1=b then 1 else 0:=by
 unfold cg;rw[List.countP_append]
 by_cases e:x.2.1=b <;> simp[e]
theorem Qv(B:List T3)(x:T3)(a:Int):cQ (B++[x]) a=cQ B a++if x.1=a then [x.2.1] else []:=by
 unfold cQ;rw[List.filter_append,List.map_append]
 by_cases e:x.1=a <;> simp[e]
theorem adH{B:List T3}{a b:Int}(h:b∈cQ B a):∃x∈B,x.1=a/\x.2.1=b:=by
 refine ai (List.mem_map.mp h) λx hx e=>?_;have:=List.mem_filter.mp hx;exact⟨x,this.1,of_decide_eq_true this.2,e⟩
structure KI(M:Nat)(B:List T3)(R rd:List Int):Prop where
 nd:R.Nodup
 lt:∀b∈R,0<=b/\b<M
 rs:∀(i:Nat) (b:Int),R[i]?=a_ b->∀x∈B,x.2.1=b->x.1∈R.take i
 rn:rd.Nodup
 rm:∀b,b∈rd↔0<=b/\b<M/\b∉R/\cg B R b=0
structure KJ(M:Nat)(B:List T3)(R:List Int)(n:Int)(j:Nat)(rd:List Int):Prop where
 rn:rd.Nodup
 rm:∀b,b∈rd↔0<=b/\b<M/\b∉R/\b≠n/\cg B R b=((cQ B n).take j).count b
theorem KI.le{M:Nat}{B:List T3}(h:KI M B R rd):R.length<=M:=by
 have:=List.Nodup.length_le_of_subset (l₁:=R) (l₂:=(List.range M).map λ(i:Nat)=>(i:Int)) h.nd (λb hb=>by
  have:=h.lt b hb;exact List.mem_map.mpr ⟨b.toNat,List.mem_range.mpr li,li⟩)
 rwa[List.length_map,List.length_range]at this
theorem KI.start{M:Nat}{B:List T3}{rd:List Int}(h:rd.Nodup)(m:∀b,b∈rd↔0<=b/\b<M/\cg B [] b=0):KI M B [] rd:=
 ⟨List.nodup_nil,λb z=>(by cases z),λi b z=>(by cases z),h,λb=>by rw[m b];simp⟩
theorem KI.go{M:Nat}{B:List T3}{n:Int}(h:KI M B R rd)(hn:n∈rd):KJ M B R n 0 (rd.erase n):=by
 refine⟨h.rn.erase n,λb=>?_⟩;rw[h.rn.mem_erase_iff,h.rm b];simp;constructor
 ·rintro⟨h1,h2,h3,h4,h5⟩;exact⟨h2,h3,h4,h1,h5⟩
 ·rintro⟨h1,h2,h3,h4,h5⟩;exact⟨h4,h1,h2,h3,h5⟩
theorem KI.room{M:Nat}{B:List T3}{n:Int}(h:KI M B R rd)(hn:n∈rd):R.length+1<=M:=by
 have k:=(h.rm n).mp hn;have:KI M B (R++[n]) []->R.length+1<=M:=λz=>by have:=z.le;rwa[List.length_append]at this
 have:=List.Nodup.length_le_of_subset (l₁:=n::R) (l₂:=(List.range M).map λ(i:Nat)=>(i:Int)) (List.nodup_cons.mpr ⟨k.2.2.1,h.nd⟩) (λb hb=>by
  have xq:0<=b/\b<M:=by
   rcases List.mem_cons.mp hb with z | z
   ·rw[z];exact⟨k.1,k.2.1⟩
   ·exact h.lt b z
  exact List.mem_map.mpr ⟨b.toNat,List.mem_range.mpr li,li⟩)
 rwa[List.length_map,List.length_range]at this
theorem KI.other{M:Nat}{B:List T3}{n o:Int}{j:Nat}(h:KI M B R rd)(hn:n∈rd)(k:KJ M B R n j sI)(ho:(cQ B n)[j]?=a_ o)(hM:∀x∈B,0<=x.2.1/\x.2.1<M) :
  0<=o/\o<M/\o∉R/\o≠n/\o∉sI/\((cQ B n).take j).count o<cg B R o:=by
 have kn:=(h.rm n).mp hn;refine aO (adH (List.mem_of_getElem? ho)) λx hx e1 e2=>?_
 have bG:((cQ B n).take j).count o<cg B R o:=by
  have h1:=Ci kn.2.2.1 o B;have h2:(cQ B n).count o=((cQ B n).take j).count o+((cQ B n).drop j).count o:=by rw[<-List.count_append,List.take_append_drop]
  have h3:0<((cQ B n).drop j).count o:=List.count_pos_iff.mpr (List.mem_of_getElem? (i:=0) (by rw[List.getElem?_drop];exact ho));omega
 have hr:=hM x hx;rw[e2]at hr;refine⟨hr.1,hr.2,λz=>?_,λz=>?_,λz=>?_,bG⟩
 ·refine oE (List.getElem?_of_mem z) λi hi=>?_;have:=h.rs i o hi x hx e2;rw[e1]at this;exact kn.2.2.1 (List.mem_of_mem_take this)
 ·have:=Aa.mp kn.2.2.2 x hx (by rw[e2,z]);rw[e1]at this;exact kn.2.2.1 this
 ·have:=((k.rm o).mp z).2.2.2.2;omega
theorem Hc{l:List Int}{j:Nat}{o:Int}(ho:l[j]?=a_ o)(b:Int):(l.take (j+1)).count b=(l.take j).count b+if o=b then 1 else 0:=by
 rw[List.take_add_one,ho,List.count_append];show _+[o].count b=_;rw[List.count_singleton]
 by_cases e:o=b <;> simp[e]
theorem KJ.yes{M:Nat}{B:List T3}{R rd:List Int}{n o:Int}{j:Nat}(k:KJ M B R n j rd)(ho:(cQ B n)[j]?=a_ o)(h:0<=o/\o<M/\o∉R/\o≠n/\o∉rd/\((cQ B n).take j).count o<cg B R o)
  (he:cg B R o=((cQ B n).take (j+1)).count o):KJ M B R n (j+1) (rd++[o]):=by
 refine⟨List.nodup_append.mpr ⟨k.rn,by simp,λa ha b hb=>by rw[List.mem_singleton.mp hb];exact λz=>h.2.2.2.2.1 (z ▸ ha)⟩,λb=>?_⟩;rw[List.mem_append,k.rm b]
 by_cases e:b=o
 ·subst e;simp[he,h.1,h.2.1,h.2.2.1,h.2.2.2.1]
 ·rw[Hc ho,if_neg (cB e)];simp[e]
theorem KJ.no{M:Nat}{B:List T3}{R rd:List Int}{n o:Int}{j:Nat}(k:KJ M B R n j rd)(ho:(cQ B n)[j]?=a_ o)(h:0<=o/\o<M/\o∉R/\o≠n/\o∉rd/\((cQ B n).take j).count o<cg B R o)
  (he:cg B R o≠((cQ B n).take (j+1)).count o):KJ M B R n (j+1) rd:=by
 refine⟨k.rn,λb=>?_⟩
 by_cases e:b=o
 ·subst e;exact⟨λz=>absurd z h.2.2.2.2.1,λz=>absurd z.2.2.2.2 he⟩
 ·rw[k.rm b,Hc ho,if_neg (cB e)];rfl
theorem KJ.done{M:Nat}{B:List T3}{n:Int}(h:KI M B R rd)(hn:n∈rd)(k:KJ M B R n (cQ B n).length sI):KI M B (R++[n]) sI:=by
 have kn:=(h.rm n).mp hn;refine⟨List.nodup_append.mpr ⟨h.nd,by simp,λa ha b hb=>by rw[List.mem_singleton.mp hb];exact λz=>kn.2.2.1 (z ▸ ha)⟩,λb hb=>?_,λi b hi x hx e=>?_,k.rn,λb=>?_⟩
 ·rcases List.mem_append.mp hb with z | z
  ·exact h.lt b z
  ·rw[List.mem_singleton.mp z];exact⟨kn.1,kn.2.1⟩
 ·by_cases hl:i<R.length
  ·rw[List.getElem?_append_left hl]at hi;rw[List.take_append_of_le_length (c8 hl)];exact h.rs i b hi x hx e
  ·rw[List.getElem?_append_right (Nat.le_of_not_lt hl)]at hi;have z:=List.getElem?_eq_some_iff.mp hi;have e0:i-R.length=0:=by have:=z.1;simp at this;exact this
   have ei:i=R.length:=om;have eb:n=b:=by have:=z.2;simp[e0]at this;exact this
   rw[ei,List.take_left];exact Aa.mp kn.2.2.2 x hx (by rw[e,eb])
 ·rw[k.rm b,List.take_length];have s:=Ci kn.2.2.1 b B;rw[show (b∉R++[n])↔(b∉R/\b≠n) by simp];constructor
  ·rintro⟨h1,h2,h3,h4,h5⟩;exact⟨h1,h2,⟨h3,h4⟩,om⟩
  ·rintro⟨h1,h2,⟨h3,h4⟩,h5⟩;exact⟨h1,h2,h3,h4,om⟩
def da(M:Nat)(f:Int->Nat):List V:=(List.range M).map λ(b:Nat)=>V.int ((f (b:Int):Nat):Int)
theorem vz(M:Nat)(f:Int->Nat):(da M f).length=M:=by unfold da;rw[List.length_map,List.length_range]
theorem tH{M:Nat}{f:Int->Nat}{j:Nat}(h:j<M):(da M f)[j]?=a_ (V.int (f (j:Int):Nat)):=by
 unfold da;rw[List.getElem?_map,List.getElem?_range h];rfl
theorem Pf{M:Nat}{f f':Int->Nat}{j v:Nat}(h1:f' (j:Int)=v)(h2:∀b:Int,b≠(j:Int)->f' b=f b):(da M f).set j (V.int (v:Nat))=da M f':=by
 refine List.ext_getElem? λi=>?_;rw[List.getElem?_set]
 by_cases e:j=i
 ·subst e;rw[if_pos rfl,vz]
  by_cases h:j<M
  ·rw[if_pos h,tH h,h1]
  ·rw[if_neg h,List.getElem?_eq_none (by rw[vz];lia)]
 ·rw[if_neg e]
  by_cases h:i<M
  ·rw[tH h,tH h,h2 _ li]
  ·rw[List.getElem?_eq_none (by rw[vz];lia),List.getElem?_eq_none (by rw[vz];lia)]
theorem Zo(M:Nat):(List.replicate M [V.int 0]).flatten=da M λ_=>0:=by
 refine List.ext_getElem? λi=>?_
 have e:(List.replicate M [V.int 0]).flatten=List.replicate M (V.int 0):=by
  induction M with
  | zero=>rfl
  | succ M ih=>rw[List.replicate_succ,List.flatten_cons,ih];rfl
 rw[e,List.getElem?_replicate]
 by_cases h:i<M
 ·rw[if_pos h,tH h];rfl
 ·rw[if_neg h,List.getElem?_eq_none (by rw[vz];lia)]
theorem KJ.le{M:Nat}{B:List T3}{n:Int}{j:Nat}(h:KJ M B R n j rd):rd.length<=M:=by
 have:=List.Nodup.length_le_of_subset (l₁:=rd) (l₂:=(List.range M).map λ(i:Nat)=>(i:Int)) h.rn (λb hb=>by
  have:=(h.rm b).mp hb;exact List.mem_map.mpr ⟨b.toNat,List.mem_range.mpr li,li⟩)
 rwa[List.length_map,List.length_range]at this
structure sf(H:Hp)(ps:List e_)(f:Int->List Int):Prop where
 nd:ps.Nodup
 at':∀(i:Nat) p,ps[i]?=a_ p->H p=a_ (.lst ((f (i:Int)).map V.int))
theorem sf.keep{f:Int->List Int}(h:sf H ps f)(k:∀p∈ps,H' p=H p):sf H' ps f:=⟨h.nd,λi p e=>by rw[k p (List.mem_of_getElem? e)];exact h.at' i p e⟩
theorem sf.put{f f':Int->List Int}{j:Nat}(h:sf H ps f)(hp:ps[j]?=a_ p)(h2:∀b:Int,b≠(j:Int)->f' b=f b):sf (upd H p (.lst ((f' (j:Int)).map V.int))) ps f':=by
 refine⟨h.nd,λi q e=>?_⟩
 by_cases z:i=j
 ·subst z;rw[hp]at e;cases e;exact ao
 ·have ne:q≠p:=λeq=>by
   subst eq;have h1:=List.getElem?_eq_some_iff.mp e;have h3:=List.getElem?_eq_some_iff.mp hp;exact z ((List.getElem_inj h.nd).mp (h1.2.trans h3.2.symm))
  rw[ag ne,h2 _ li];exact h.at' i q e
def jI(B:List T3)(i:Nat):List Int:=((List.range i).filter λ(b:Nat)=>decide (cg B [] (b:Int)=0)).map λ(b:Nat)=>(b:Int)
theorem Pa(B:List T3)(i:Nat):jI B (i+1)=jI B i++if cg B [] (i:Int)=0 then [(i:Int)] else []:=by
 unfold jI;rw[List.range_succ,List.filter_append,List.map_append]
 by_cases h:cg B [] (i:Int)=0 <;> simp[h]
theorem P7(B:List T3)(i:Nat):(jI B i).length<=i:=by
 unfold jI;rw[List.length_map];have:=List.length_filter_le (λ(b:Nat)=>decide (cg B [] (b:Int)=0)) (List.range i);rwa[List.length_range]at this
theorem adb(M:Nat)(B:List T3):KI M B [] (jI B M):=by
 refine KI.start (List.Pairwise.map _ (λa b z e=>z li) ((List.nodup_range (n:=M)).filter _)) λb=>?_
 ·unfold jI;rw[List.mem_map];constructor
  ·rintro⟨a,ha,rfl⟩;have:=List.mem_filter.mp ha;have h1:=List.mem_range.mp this.1;exact⟨li,li,of_decide_eq_true this.2⟩
  ·rintro⟨h1,h2,h3⟩;refine⟨b.toNat,List.mem_filter.mpr ⟨List.mem_range.mpr li,?_⟩,li⟩;rw[BQ h1];exact decide_eq_true h3
def PY:Sp:=λvs H Q _=>∃(M:Nat) (b:e_) (us:List V) (B:List T3),vs=[.int (M:Nat),.ref b]/\M<=3000/\H b=a_ (.lst us)/\Paired (cO H) us B/\B.length<=100000/\(∀x∈B,(0<=x.1/\x.1<M)/\0<=x.2.1/\x.2.1<M)/\
 ∀H' l R,ah H H'->H l=b_->H' l=a_ (.lst (R.map V.int))->KI M B R []->Q (.ref l) H'
theorem qb:bf ["many","befores","missing","behind","one","other","why","ready","row","number"] ["many","befores"] (aR IL):=bz
theorem aff:(["missing","number"]:List Str).Nodup:=dk
theorem aar(F:aU K "counted_out" "counted_out" IL f fd)(di:mg "range" = b_)(LS:mg "min" = b_)(cW:mg "len" = b_):ax P w K mg base ay 1 f fd ["many","befores"] PY:=by
 refine F.ok qb λaL A _ s H vs Q E hr h=>?_
 ·obtain⟨M,b,us,B,e,hM,hb,hp,hB,hx,q⟩:=h;subst e
  refine let R1:TS:=_;let R2:TS:=_;let R3:TS:=_;let R4:TS:=_;let R5:TS:=_;let R6:TS:=_;let R7:TS:=_;let R8:TS:=_;let R9:TS:=_;let fu:TS:=_;let nY:TS:=_;⟨_,ar (bp (i:=2) qb.nd rfl (tT rfl) (aW IY (dy (ab aq af)) (pv 0))) (pR nY (ar (tE (i:=3) (N:=["number"]) (idx:=[]) qb.nd rfl rfl rfl (cZ.of (by kernel_rfl)) (gF (aP _)) (jh rfl di (ab (pv 0) af)) (λ_ _ _ _=>bb (i:=0) Q7 rfl (aF rfl) (.inr rfl)) (λ_ _ _ _=>gZ) λ_ _ _ _=>dy af)
   (pR fu (ar (hV gr rfl (nC (pv 1)) (kX rfl (dn (bb (i:=4) qb.nd rfl (aF rfl)) (dn (bb (i:=5) qb.nd rfl (aF rfl)) (dn (bb (i:=6) qb.nd rfl (aF rfl)) kQ)))) (ar (Ig (pv 2) (pv 5) HB aq Rj set_list) (pR R5 (aG (dq (iK m_ n_ o_ lV (aJ cD (pv 3) (pv 4)) (ab (pv 5) af))))))) (pR R9 (ar (tE (i:=7) (N:=["missing","number"]) (idx:=[2]) qb.nd rfl rfl rfl (cZ.of (by kernel_rfl)) (gF (aw _)) (jh rfl di (ab (pv 0) af)) (λ_ _ _ _=>bb (i:=1) aff rfl (aF rfl) (.inr rfl)) (λ_ _ _ _=>tJ (bo cH (aJ (Ay K) (pv 0) (pv 1)) aq (a7 _))) λ_ _ _ _=>pv 1)
   (pR R8 (ar (bp (i:=8) qb.nd rfl (aF rfl) (dy af)) (pR R7 (ar (Hr gr (bo vV (bw dP rfl cW q_ (ab (pv 7) af)) aq (a7 _)) (ar (bp (i:=9) qb.nd rfl (aF rfl) (bw (OH rfl) rfl LS boot_min (ab (pv 7) af))) (pR R4 (ar (dq (iK m_ PySem.F.slot_list_remove PySem.F.type_list_remove Zn (pv 7) (ab (pv 9) af))) (pR R3 (ar (dq (iK m_ n_ o_ lV (pv 8) (ab (pv 9) af))) (pR R2 (aG (hV gr rfl (nC (aJ cD (pv 3) (pv 9))) (bb (i:=5) qb.nd rfl (aF rfl)) (ar (Ig (pv 2) (pv 5) HB aq adU set_list) (pR R1 (aG (bZ (bo cH (aJ cD (pv 2) (pv 5)) aq (a7 _)) (aG (dq (iK m_ n_ o_ lV (pv 7) (ab (pv 5) af)))) cp))))))))))))) (pR R6 (aG (bg (pv 8)))))))))))))),?_⟩
  have hsz:=eM;refine⟨qc,λl0 n0=>⟨_,rfl,l0,(M:Int),[V.int 0],rfl,rfl,ao,li,li,by rw[hsz];simp;lia,λlm nm=>?_⟩⟩;rw[fZ,Zo];have s0:=aE (o:=.lst [V.int 0]) (ah.refl H) n0;generalize upd H l0 (.lst [V.int 0])=H0 at s0 nm ⊢;have s1:=aE (o:=.lst (da M λ_=>0)) s0 nm;have U3:=s0.free nm;have jP:upd H0 lm (.lst (da M λ_=>0)) lm=a_ (.lst (da M λ_=>0)):=ao;generalize upd H0 lm (.lst (da M λ_=>0))=H1 at s1 jP ⊢;refine⟨_,rfl,(M:Int),rfl,li,li,eN (n:=M) (λi ys H'=>i<=M/\ah H1 H'/\∃ps:List e_,ys=ps.map V.ref/\ps.length=i/\ps.Nodup/\∀p∈ps,H1 p=b_/\H' p=a_ (.lst [])) (by rw[hsz];lia) ⟨aP _,ah.refl _,[],rfl,rfl,List.nodup_nil,λp h=>(by cases h)⟩ ?_ ?_ ?_ ?_ ?_⟩
  ·rintro i ys H' ⟨_,_,ps,rfl,e,_⟩;rw[List.length_map];exact nz e
  ·rintro i ys H' hi _;show i<(M:Int).toNat;lia
  ·rintro ys H' _;show (M:Int).toNat<=M;lia
  ·rintro i ys H' hi ⟨_,s2,ps,rfl,e,nd,jO⟩ v H2 ⟨rfl,rfl⟩;refine⟨qc,λp np=>⟨hi,aE s2 np,ps++[p],by rw[List.map_append];rfl,by rw[List.length_append,e];rfl,List.nodup_append.mpr ⟨nd,by simp,λa ha b hb=>?_⟩,λa ha=>?_⟩⟩
   ·rw[List.mem_singleton.mp hb];exact cG (jO a ha).2 np
   ·rcases List.mem_append.mp ha with z | z
    ·exact⟨(jO a z).1,by rw[ag (cG (jO a z).2 np)];exact(jO a z).2⟩
    ·rw[List.mem_singleton.mp z];exact⟨s2.free np,ao⟩
  ·rintro ys H2 ⟨_,s2,ps,rfl,pl,nd,jO⟩;refine⟨by rw[hsz,List.length_map];lia,λlb wN=>?_⟩;have Ln:=cG (s2 _ _ jP) wN;have pm:=λp h=>cB (cG jP (jO p h).1);have pb:=λp h=>cG (jO p h).2 wN;have pH:=λp h=>s1.free (jO p h).1;have nbH:=(s1.trans s2).free wN;have s3:=aE (o:=.lst (ps.map V.ref)) (s1.trans s2) wN;have jv:upd H2 lb (.lst (ps.map V.ref)) lm=a_ (.lst (da M λ_=>0)):=by rw[ag Ln];exact s2 _ _ jP
   have xp:upd H2 lb (.lst (ps.map V.ref)) lb=a_ (.lst (ps.map V.ref)):=ao;have Wx:sf (upd H2 lb (.lst (ps.map V.ref))) ps (cQ []):=⟨nd,λi p e=>by rw[ag (pb p (List.mem_of_getElem? e))];exact(jO p (List.mem_of_getElem? e)).2⟩;generalize upd H2 lb (.lst (ps.map V.ref))=H3 at s3 jv xp Wx ⊢;clear jO s2 wN H2 s1 jP H1 s0 nm H0 n0;refine⟨_,rfl,b,rfl,⟨_,ae.of (s3 _ _ hb)⟩,?_⟩
   let W1:IV:=λi σ H'=>i<=B.length/\∃a c y,σ=[a_ (.int (M:Nat)),a_ (.ref b),a_ (.ref lm),a_ (.ref lb),a,c,y,b_,b_,b_]/\ah H H'/\H' lm=a_ (.lst (da M (cg (B.take i) [])))/\H' lb=a_ (.lst (ps.map V.ref))/\sf H' ps (cQ (B.take i))
   refine x9 (xs:=us) W1 ⟨aP _,b_,b_,b_,rfl,s3,jv,xp,Wx⟩ ?_ ?_ ?_
   ·rintro i σ H' _ ⟨_,a,c,y,rfl,s4,_⟩;exact ae.of (s4 _ _ hb)
   ·rintro i x σ H' pA ⟨_,a,c,y,rfl,s4,lJ,E',zt⟩;refine ai (jg hp pA) λz sM aa=>ai aa λp ex qM=>?_;subst ex;obtain⟨z1,z2,z3⟩:=z;have ER:=hx _ (List.mem_of_getElem? sM);obtain⟨a1,rfl⟩:∃n:Nat,z1=(n:Int):=⟨z1.toNat,by have:=ER.1.1;lia⟩;obtain⟨o1,rfl⟩:∃n:Nat,z2=(n:Int):=⟨z2.toNat,by have:=ER.2.1;lia⟩;have h1:a1<M:=by have:=ER.1.2;lia
    have h2:o1<M:=by have:=ER.2.2;lia
    have hi:i<B.length:=(List.getElem?_eq_some_iff.mp sM).1;have tk:B.take (i+1)=B.take i++[((a1:Int),(o1:Int),z3)]:=by rw[List.take_add_one,sM];rfl
    refine⟨p,_,rfl,aB.of (s4 _ _ qM),rfl,_,_,rfl,_,_,rfl,_,[],rfl,rfl,⟨_,rfl,_,rfl,lm,_,o1,_,rfl,rfl,lJ,tH h2,_,_,rfl,rfl,lm,_,_,o1,rfl,rfl,lJ,yo (by rw[vz];exact h2),?_⟩⟩
    have si:(da M (cg (B.take i) [])).set o1 (V.int (((cg (B.take i) [] (o1:Int):Nat):Int)+1))=da M (cg (B.take (i+1)) []):=by
     rw[show ((cg (B.take i) [] (o1:Int):Nat):Int)+1=((cg (B.take i) [] (o1:Int)+1:Nat):Int) by lia];exact Pf (by rw[tk,Pw,if_pos rfl]) (λb hb=>by rw[tk,Pw,if_neg λz=>hb z.symm];rfl)
    rw[si];have s5:=gX (o:=.lst (da M (cg (B.take (i+1)) []))) s4 U3;have sP:upd H' lm (.lst (da M (cg (B.take (i+1)) []))) lm=a_ (.lst (da M (cg (B.take (i+1)) []))):=ao;have Mb:upd H' lm (.lst (da M (cg (B.take (i+1)) []))) lb=a_ (.lst (ps.map V.ref)):=by rw[ag (cB Ln)];exact E'
    have Mt:=zt.keep (H':=upd H' lm (.lst (da M (cg (B.take (i+1)) [])))) λp h=>ag (pm p h);generalize upd H' lm (.lst (da M (cg (B.take (i+1)) [])))=H5 at s5 sP Mb Mt ⊢;have fh:ps[a1]?=a_ (ps[a1]' li):=List.getElem?_eq_getElem _;have Lv:=List.mem_of_getElem? fh;have LW:=Mt.at' a1 _ fh
    have bl:(cQ (B.take i) (a1:Int)).length<=100000:=by
     unfold cQ;rw[List.length_map];have:=List.length_filter_le (λx:T3=>decide (x.1=(a1:Int))) (B.take i);rw[List.length_take]at this;lia
    refine⟨_,rfl,_,rfl,rL (v:=.ref _) (ae.of Mb) (cX (by rw[List.getElem?_map,fh];rfl)) ⟨.inl ⟨rfl,_,ae.of LW⟩,_,rfl,_,_,_,rfl,rfl,LW,by rw[hsz,List.length_map];lia,hi,_,_,_,rfl,gX s5 (pH _ Lv),?_,?_,?_⟩⟩
    ·rw[ag (cB (pm _ Lv))];exact sP
    ·rw[ag (cB (pb _ Lv))];exact Mb
    ·have:=Mt.put (f':=cQ (B.take (i+1))) fh λb hb=>by rw[tk,Qv,if_neg λz=>hb z.symm,List.append_nil]
     rw[tk,Qv,if_pos rfl,List.map_append]at this;rw[tk];exact this
   ·rintro σ H4 ⟨_,a,c,y,rfl,s4,lJ,E',zt⟩;rw[r_ hp,List.take_length]at lJ zt;refine⟨_,rfl,(M:Int),rfl,li,li,eN (n:=M) (λi ys H'=>i<=M/\H'=H4/\ys=(jI B i).map V.int) (by rw[hsz];lia) ⟨aP _,rfl,rfl⟩ ?_ ?_ ?_ ?_ ?_⟩
    ·rintro i ys H' ⟨_,_,rfl⟩;rw[List.length_map];exact P7 _ _
    ·rintro i ys H' hi _;show i<(M:Int).toNat;lia
    ·rintro ys H' _;show (M:Int).toNat<=M;lia
    ·rintro i ys H' hi ⟨_,rfl,rfl⟩ v H5 ⟨rfl,rfl⟩;rw[lQ];refine⟨_,rfl,_,rfl,rL (ae.of lJ) (cX (tH hi)) (rq (H:=H5) rfl ?_)⟩;rw[Pq];refine bQ (λe=>?_) λe=>?_
     ·refine vr rfl ⟨hi,rfl,?_⟩;rw[Pa,if_pos li,List.map_append];rfl
     ·refine⟨hi,rfl,?_⟩;rw[Pa,if_neg λz=>e li,List.append_nil]
    ·rintro ys H5 ⟨_,rfl,rfl⟩;refine⟨by rw[hsz,List.length_map];have:=P7 B M;lia,λlr nr=>⟨qc,λlw nw=>?_⟩⟩
     obtain⟨Hz,UH,zm,zr,zw,zb,zbh,sz⟩:∃Hz:Hp,ah H Hz/\Hz lm=b_/\Hz lr=b_/\Hz lw=b_/\Hz lb=a_ (.lst (ps.map V.ref))/\sf Hz ps (cQ B)/\ah Hz (upd (upd H5 lr (.lst ((jI B M).map V.int))) lw (.lst [])):=by
      have nrH:=s4.free nr;have s5:=aE (o:=.lst ((jI B M).map V.int)) s4 nr;have nwH:=s5.free nw
      have nw5:H5 lw=none:=by
       rw[ag (λz=>by rw[z,ao]at nw;cases nw)]at nw;exact nw
      have keep:∀x o,x≠lm->H5 x=a_ o->(λx=>if x=lm\/x=lr\/x=lw then b_ else H5 x:Hp) x=a_ o:=λx o hx e=>by
       show (if x=lm\/x=lr\/x=lw then b_ else H5 x)=a_ o;rw[if_neg λz=>z.elim hx λz=>z.elim (cG e nr) (cG e nw5)];exact e
      refine⟨λx=>if x=lm\/x=lr\/x=lw then b_ else H5 x,λx o e=>keep x o (cG e U3) (s4 _ _ e),if_pos (.inl rfl),if_pos (.inr (.inl rfl)),if_pos (.inr (.inr rfl)),keep _ _ (cB Ln) E',⟨zt.nd,λi p e=>keep _ _ (pm p (List.mem_of_getElem? e)) (zt.at' i p e)⟩,λx o e=>?_⟩;have e:(if x=lm\/x=lr\/x=lw then b_ else H5 x)=a_ o:=e
      split at e
      ·cases e
      ·rename_i hn
       rw[ag λz=>hn (.inr (.inr z)),ag λz=>hn (.inr (.inl z))];exact e
     have EF:=cG ao nw;have A7:=cB (cG lJ nr);have Lj:lw≠lm:=λz=>by rw[z,ag (cB A7),lJ]at nw;cases nw
     have VG:upd (upd H5 lr (.lst ((jI B M).map V.int))) lw (.lst []) lr=a_ (.lst ((jI B M).map V.int)):=by rw[ag EF];exact ao
     have xh:upd (upd H5 lr (.lst ((jI B M).map V.int))) lw (.lst []) lm=a_ (.lst (da M (cg B []))):=by rw[ag (cB Lj),ag (cB A7)];exact lJ
     have qK:upd (upd H5 lr (.lst ((jI B M).map V.int))) lw (.lst []) lw=a_ (.lst []):=ao;generalize upd (upd H5 lr (.lst ((jI B M).map V.int))) lw (.lst [])=H6 at sz VG xh qK ⊢;clear lJ E' zt s4 nr nw;refine⟨λμ σ H'=>∃(R rd:List Int) (c z:Option V),σ=[a_ (.int (M:Nat)),a_ (.ref b),a_ (.ref lm),a_ (.ref lb),a,c,y,a_ (.ref lr),a_ (.ref lw),z]/\μ+R.length=M/\ah Hz H'/\H' lm=a_ (.lst (da M (cg B R)))/\H' lr=a_ (.lst (rd.map V.int))/\H' lw=a_ (.lst (R.map V.int))/\KI M B R rd,⟨M,[],jI B M,c,b_,rfl,rfl,sz,xh,VG,qK,adb M B⟩,?_⟩;rintro μ σ H' ⟨R,rd,c,z,rfl,hμ,s7,LU,y8,pC,I7⟩;refine⟨_,rfl,lr,_,rfl,.inl (ae.of y8),_,_,rfl,rfl,_,rfl,bQ (λbG=>?_) λpG=>?_⟩
     ·rw[List.length_map]at bG;refine⟨λσ' H'=>∃μ',μ' < μ/\∃(R rd:List Int) (c z:Option V),σ'=[a_ (.int (M:Nat)),a_ (.ref b),a_ (.ref lm),a_ (.ref lb),a,c,y,a_ (.ref lr),a_ (.ref lw),z]/\μ'+R.length=M/\ah Hz H'/\H' lm=a_ (.lst (da M (cg B R)))/\H' lr=a_ (.lst (rd.map V.int))/\H' lw=a_ (.lst (R.map V.int))/\KI M B R rd,λσ' H' z=>z,⟨_,rfl,lr,rd,rfl,ae.of y8,λz=>by rw[z]at bG;exact absurd bG qc,λn hn _=>?_⟩⟩;have kn:=(I7.rm n).mp hn;have Se:=I7.room hn;obtain⟨n1,rfl⟩:∃k:Nat,n=(k:Int):=⟨n.toNat,by have:=kn.1;lia⟩;refine⟨_,rfl,.inl ⟨rfl,_,ae.of y8⟩,_,rfl,lr,rd,(n1:Int),rfl,rfl,y8,hn,?_⟩;have s8:=gX (o:=.lst ((rd.erase (n1:Int)).map V.int)) s7 zr;have uV:upd H' lr (.lst ((rd.erase (n1:Int)).map V.int)) lm=a_ (.lst (da M (cg B R))):=by rw[ag (cB A7)];exact LU
      have E2:upd H' lr (.lst ((rd.erase (n1:Int)).map V.int)) lr=a_ (.lst ((rd.erase (n1:Int)).map V.int)):=ao;have y4:upd H' lr (.lst ((rd.erase (n1:Int)).map V.int)) lw=a_ (.lst (R.map V.int)):=by rw[ag (cB EF)];exact pC
      generalize upd H' lr (.lst ((rd.erase (n1:Int)).map V.int))=H8 at s8 uV E2 y4 ⊢;refine⟨_,rfl,.inl ⟨rfl,_,ae.of y4⟩,_,rfl,lw,_,.int (n1:Int),rfl,rfl,y4,by rw[hsz,List.length_map];lia,?_⟩;rw[show R.map V.int++[V.int (n1:Int)]=(R++[(n1:Int)]).map V.int by rw[List.map_append];rfl];have s9:=gX (o:=.lst ((R++[(n1:Int)]).map V.int)) s8 zw;have E5:upd H8 lw (.lst ((R++[(n1:Int)]).map V.int)) lm=a_ (.lst (da M (cg B R))):=by rw[ag (cB Lj)];exact uV
      have VF:upd H8 lw (.lst ((R++[(n1:Int)]).map V.int)) lr=a_ (.lst ((rd.erase (n1:Int)).map V.int)):=by rw[ag EF];exact E2
      have VB:upd H8 lw (.lst ((R++[(n1:Int)]).map V.int)) lw=a_ (.lst ((R++[(n1:Int)]).map V.int)):=ao;generalize upd H8 lw (.lst ((R++[(n1:Int)]).map V.int))=H9 at s9 E5 VF VB ⊢;have Bk:n1<M:=by have:=kn.2.1;lia
      have VH:ps[n1]?=a_ (ps[n1]' li):=List.getElem?_eq_getElem _;have zp:=zbh.at' n1 _ VH;refine⟨_,rfl,_,rfl,rL (v:=.ref _) (ae.of (s9 _ _ zb)) (cX (by rw[List.getElem?_map,VH];rfl)) ⟨_,rfl,⟨_,ae.of (s9 _ _ zp)⟩,?_⟩⟩
      let W2:IV:=λj σ H'=>j<=(cQ B (n1:Int)).length/\∃(c:Option V) (rd:List Int),σ=[a_ (.int (M:Nat)),a_ (.ref b),a_ (.ref lm),a_ (.ref lb),a,c,y,a_ (.ref lr),a_ (.ref lw),a_ (.int (n1:Int))]/\ah Hz H'/\H' lm=a_ (.lst (da M λb=>cg B R b-((cQ B (n1:Int)).take j).count b))/\H' lr=a_ (.lst (rd.map V.int))/\H' lw=a_ (.lst ((R++[(n1:Int)]).map V.int))/\KJ M B R (n1:Int) j rd
      refine x9 (xs:=(cQ B (n1:Int)).map V.int) W2 ⟨aP _,c,_,rfl,s9,E5,VF,VB,I7.go hn⟩ ?_ ?_ ?_
      ·rintro j σ H' _ ⟨_,c,rd,rfl,mQ,_⟩;exact ae.of (mQ _ _ zp)
      ·rintro j x σ H' Vv ⟨_,c,sI,rfl,mQ,AR,Kt,Kr,J⟩;rw[List.getElem?_map]at Vv;refine ai (lN.mp Vv) λo ho eo=>?_;subst eo;have ko:=I7.other hn J ho (λx h=>(hx x h).2);have hj:j<(cQ B (n1:Int)).length:=(List.getElem?_eq_some_iff.mp ho).1;have jl:=J.le;obtain⟨o1,rfl⟩:∃k:Nat,o=(k:Int):=⟨o.toNat,by have:=ko.1;lia⟩;have LM:o1<M:=by have:=ko.2.1;lia
       have kc:=ko.2.2.2.2.2;have tc:=Hc ho;have UB:=tc (o1:Int);rw[if_pos rfl]at UB;refine⟨_,rfl,_,rfl,lm,_,o1,_,rfl,rfl,AR,tH LM,_,_,rfl,rfl,lm,_,_,o1,rfl,rfl,AR,yo (by rw[vz];exact LM),?_⟩
       have si:(da M λb=>cg B R b-((cQ B (n1:Int)).take j).count b).set o1 (V.int (((cg B R (o1:Int)-((cQ B (n1:Int)).take j).count (o1:Int):Nat):Int)-1))=da M λb=>cg B R b-((cQ B (n1:Int)).take (j+1)).count b:=by
        rw[show ((cg B R (o1:Int)-((cQ B (n1:Int)).take j).count (o1:Int):Nat):Int)-1=((cg B R (o1:Int)-((cQ B (n1:Int)).take (j+1)).count (o1:Int):Nat):Int) by rw[UB];lia];exact Pf rfl λb hb=>by rw[tc b,if_neg λz=>hb z.symm];rfl
       rw[si];have iP:=gX (o:=.lst (da M λb=>cg B R b-((cQ B (n1:Int)).take (j+1)).count b)) mQ zm;have wt:upd H' lm (.lst (da M λb=>cg B R b-((cQ B (n1:Int)).take (j+1)).count b)) lm=a_ (.lst (da M λb=>cg B R b-((cQ B (n1:Int)).take (j+1)).count b)):=ao;have DW:upd H' lm (.lst (da M λb=>cg B R b-((cQ B (n1:Int)).take (j+1)).count b)) lr=a_ (.lst (sI.map V.int)):=by rw[ag A7];exact Kt
       have Kq:upd H' lm (.lst (da M λb=>cg B R b-((cQ B (n1:Int)).take (j+1)).count b)) lw=a_ (.lst ((R++[(n1:Int)]).map V.int)):=by rw[ag Lj];exact Kr
       generalize upd H' lm (.lst (da M λb=>cg B R b-((cQ B (n1:Int)).take (j+1)).count b))=BO at iP wt DW Kq ⊢;refine⟨_,rfl,_,rfl,rL (ae.of wt) (cX (tH LM)) (rq (H:=BO) rfl ?_)⟩;rw[Pq];refine bQ (λe=>?_) λe=>?_
       ·refine⟨_,rfl,.inl ⟨rfl,_,ae.of DW⟩,_,rfl,lr,_,.int (o1:Int),rfl,rfl,DW,by rw[hsz,List.length_map];lia,hj,_,sI++[(o1:Int)],rfl,gX iP zr,?_,?_,?_,J.yes ho ko li⟩
        ·rw[ag (cB A7)];exact wt
        ·rw[List.map_append];exact ao
        ·rw[ag (cB EF)];exact Kq
       ·exact⟨hj,_,sI,rfl,iP,wt,DW,Kq,J.no ho ko λz=>e li⟩
      ·rintro σ H' ⟨_,c,sI,rfl,mQ,AR,Kt,Kr,J⟩;rw[List.length_map]at J AR;have I8:=KJ.done I7 hn J;refine⟨μ-1,li,R++[(n1:Int)],sI,c,_,rfl,by rw[List.length_append];show μ-1+(R.length+1)=M;lia,mQ,?_,Kt,Kr,I8⟩;rw[AR,List.take_length];refine congrArg (λf=>a_ (HO.lst (da M f))) (funext λb=>?_);have:=Ci kn.2.2.1 b B;omega
     ·rw[List.length_map]at pG;have e:rd=[]:=List.eq_nil_of_length_eq_zero li;subst e;exact vr rfl (q H' lw R (UH.trans s7) (UH.free zw) pC I7)
theorem Pe{s:Option Int}{b:Int}(h:nextM o s=a_ b):b∈o:=by
 unfold nextM at h;refine bX (List.lookup_eq_some_iff.mp h) λl1 l2 e _=>?_;have:(s,b)∈(b_::o.map a_).zip o:=by rw[e];simp
 exact(List.of_mem_zip this).2
theorem JA(Z:mw S){n:Nat}{d:Int}(h:d∈S.ov.getD n []):0<=d/\d<S.ac.length:=by
 cases e:S.ov[n]? with
 | none=>rw[List.getD_eq_getElem?_getD,e]at h;cases h
 | some o=>
  rw[nD e]at h;refine dC (Z.im n o e d h) λj a h1 h2 _=>?_;have:=(List.getElem?_eq_some_iff.mp h2).1;lia
theorem GQ(Z:mw S){x:T3}(h:x∈iX S):(0<=x.1/\x.1<S.ac.length)/\0<=x.2.1/\x.2.1<S.ac.length:=by
 unfold iX at h;rcases List.mem_append.mp h with h | h
 ·rcases List.mem_append.mp h with h | h
  ·rcases List.mem_append.mp h with h | h
   ·refine ai (List.mem_flatMap.mp h) λc _ h2=>ic (CV.mp h2) λi j e h3 h4 _=>?_;subst e;exact⟨⟨li,by show (i:Int)<_;lia⟩,by show (0:Int)<=(j:Int);lia,by show (j:Int)<_;lia⟩
   ·refine ai (List.mem_filterMap.mp h) λj _ h2=>cC (Cr h2) λa h3 h4 h5 _=>?_;have hj:=(List.getElem?_eq_some_iff.mp h3).1;refine dC (Z.sn j a h3 _ h4) λi o h6 h7 _=>?_;lia
  ·refine ai (List.mem_flatMap.mp h) λn _ h2=>oA (vO.mp h2) λh3 _=>?_;have h4:=List.of_mem_zip h3;exact⟨JA Z h4.1,JA Z (List.mem_of_mem_tail h4.2)⟩
 ·refine ai (List.mem_filterMap.mp h) λj _ h2=>?_;unfold k8 at h2;refine ai (sZ.mp h2) λa h3 h4=>?_;have hj:=(List.getElem?_eq_some_iff.mp h3).1;unfold qf at h4
  split at h4
  ·cases h4
  ·refine ai (sZ.mp h4) λb h5 h6=>?_
   split at h6
   ·cases h6
   ·cases h6;exact⟨⟨li,by show (j:Int)<_;lia⟩,JA Z (Pe h5)⟩
theorem KI.iff{M:Nat}{B B':List T3}(h:KI M B R rd)(e:∀x,x∈B↔x∈B'):KI M B' R rd:=
 ⟨h.nd,h.lt,λi b hi x hx=>h.rs i b hi x ((e x).mpr hx),h.rn,λb=>by
  rw[h.rm b,Aa,Aa];exact⟨λz=>⟨z.1,z.2.1,z.2.2.1,λx hx=>z.2.2.2 x ((e x).mpr hx)⟩,λz=>⟨z.1,z.2.1,z.2.2.1,λx hx=>z.2.2.2 x ((e x).mp hx)⟩⟩⟩
theorem KI.left{M:Nat}{B:List T3}(h:KI M B R []){b:Int}(h0:0<=b)(h1:b<M)(hn:b∉R):∃y∈B,y.1∉R/\y.2.1=b:=by
 have z:¬cg B R b=0:=λz=>by cases (h.rm b).mpr ⟨h0,h1,hn,z⟩
 rw[Aa]at z;refine oE (MN.mp z) λy hy=>oE (MN.mp hy) λh2 hy=>oE (MN.mp hy) λh3 h4=>⟨y,h2,h4,h3⟩
theorem KI.ae5{M:Nat}{B:List T3}(h:KI M B R [])(hl:R.length≠M):∃b:Int,0<=b/\b<M/\b∉R:=by
 refine vh λz=>hl (Nat.le_antisymm h.le ?_)
 have:=List.Nodup.length_le_of_subset (l₁:=(List.range M).map λ(i:Nat)=>(i:Int)) (l₂:=R) (List.Pairwise.map _ (λa b z e=>z li) (List.nodup_range (n:=M))) (λb hb=>by
  refine ai (List.mem_map.mp hb) λi hi e=>?_;have hi:=List.mem_range.mp hi;exact vh λq=>z ⟨b,li,li,q⟩)
 rwa[List.length_map,List.length_range]at this
section
variable{t:aZ}{C CT:e_}
def QN(t:aZ)(C CT:e_):Sp:=λvs H Q _=>∃m A S,vs=[.ref m]/\aX t C CT H m A S/\Q (.int (S.ac.length:Nat)) H
theorem ac7:bf zLf zLf (aR Jx):=bz
theorem acf(F:aU K "deeds_done" "Machine.deeds_done" Jx f fd)(cW:mg "len" = b_)(cM:eP K C):ax P w K mg base ay 1 f fd zLf (QN t C CT):=by
 refine F.ok ac7 λaL A _ s H vs Q E hr h=>?_
 ·refine iY h λm A S aa M q=>?_;clear h;subst aa;refine sj (aG (bg (bw dP rfl cW q_ (ab (cc (pv 0) rfl) af)))) (bX (id M.obj) λdx fs hm G=>ai M.ac λws h1 h2=>vF rfl hm cM.cl cM.iN G.iN ⟨A.ac,⟨_,rfl,.inl (ae.of h1),?_⟩⟩);rw[r_ h2];exact q
def PM(t:aZ)(C CT:e_):Sp:=λvs H Q _=>∃m A S,vs=[.ref m]/\aX t C CT H m A S/\gC S/\S.ac.length<=3000/\JO S/\mw S/\(∀x∈iX S,x.1≠x.2.1)/\
 ∀H' p x v (R:List Int),ah H H'->H' p=a_ (.tup [.str x,v])->KI S.ac.length (iX S) R []->(x = "row"/\R.length=S.ac.length/\(∃l,v=.ref l/\H' l=a_ (.lst (R.map V.int)))\/x = "ring"/\∃d ts Y,v=.ref d/\H' d=a_ (.tup ts)/\Paired (mx H') ts Y/\RingM (iX S) Y)->Q (.ref p) H'
theorem CN:bf ["machine","befores","many","row"] zLb (aR IF):=bz
theorem aap(F:aU K "order" "order" IF f fd)(cM:eP K C)(cW:mg "len" = b_)
  (GB:ax P w K mg base ay 4 fB mz zLb (O3 t C CT)) (kB:x_ K (.ref fB)=c_) (bB:Binds K mz zLb []) (mB:mg "before" = a_ (.ref fB))
  (GD:ax P w K mg base ay 1 fD ky zLf (QN t C CT)) (bD:Binds K ky zLf []) (mD:Meth K C "deeds_done" fD)
  (GC:ax P w K mg base ay 1 fC pL ["many","befores"] PY) (kC:x_ K (.ref fC)=c_) (bC:Binds K pL ["many","befores"] []) (mC:mg "counted_out" = a_ (.ref fC))
  (GR:ax P w K mg base ay 2 fR BB zLn QH) (kR:x_ K (.ref fR)=c_) (bR:Binds K BB zLn []) (mR:mg "ring_of" = a_ (.ref fR)):ax P w K mg base ay 5 f fd zLb (PM t C CT):=by
 refine F.ok CN λaL A _ s H vs Q E hr h=>?_
 ·refine Ce h λm A S aa M W dN hn a8=>dg a8 λZ wQ q=>?_;clear h a8;subst aa;have fX:=hr.mono (show 1<=4 by decide);have iC:=hr.mono (show 2<=4 by decide);refine let R1:TS:=_;let R2:TS:=_;let R3:TS:=_;let R4:TS:=_;⟨_,ar (bp (i:=1) CN.nd rfl (aF rfl) (cU GB hr rfl mB kB bB .nil aT (ab (pv 0) af))) (pR R4 (ar (bp (i:=2) CN.nd rfl (aF rfl) (jT (pv 0) cM.cl mD GD fX bD .nil aT)) (pR R3 (ar (bp (i:=3) CN.nd rfl (aF rfl) (cU GC fX rfl mC kC bC .nil aT (ab (pv 2) (ab (pv 1) af)))) (pR R2 (ar (bZ (bo cH (bw dP rfl cW q_ (ab (pv 3) af)) (pv 2) (a7 _)) (aG (bg (iH (ab cJ (ab (pv 3) af))))) cp) (pR R1 (aG (bg (iH (ab cJ (ab (cU GR iC rfl mR kR bR .nil aT (ab (pv 3) (ab (pv 1) af))) af)))))))))))),?_⟩
  have hsz:=eM;refine⟨_,rfl,m,A,S,rfl,M,W,dN,hn,Z,λH1 lb us B s1 nb hb hp hB=>?_⟩
  have lB:B.length<=100000:=by
   rw[hB.len];unfold iX;rw[List.length_append,List.length_append,List.length_append];have y1:=Cv S S.ps.length;have y1':=FR W.good.le dN;have y2:=Cb S S.ac.length;have y5:=Cd Z.jr 12;have y7:=Gj S S.ac.length;lia
  have bG:=λx hx=>GQ Z ((hB.mem x).mp hx);refine bX (id (M.same s1).obj) λdx fs hm G=>vM rfl hm (G.ms _ dk) ⟨m,A,S,rfl,M.same s1,⟨_,rfl,_,rfl,S.ac.length,lb,us,B,rfl,li,hb,hp,lB,bG,λH2 l R s2 nl hl I=>⟨_,rfl,l,_,rfl,.inl (ae.of hl),_,rfl,rq (H:=H2) rfl ?_⟩⟩⟩;rw[List.length_map,vH];have IB:=I.iff hB.mem;refine bQ (λe=>?_) λe=>?_
  ·refine⟨_,rfl,sl (n:=2),λp np=>q _ p _ _ R (aE (s1.trans s2) np) ao IB (.inl ⟨rfl,e,l,rfl,?_⟩)⟩;rw[ag (cG hl np)];exact hl
  ·have hle:=I.le;refine⟨_,rfl,_,rfl,l,lb,R,us,B,rfl,hl,li,s2 _ _ hb,cO.all hp λb xs e=>s2 _ _ e,lB,?_,λx hx LF=>?_,λx hx=>wQ x ((hB.mem x).mp hx),λH3 d ts Y s3 nd hd hY rM=>⟨sl (n:=2),λp np=>q _ p _ _ R (aE ((s1.trans s2).trans s3) np) ao IB (.inr ⟨rfl,d,ts,Y,rfl,aE (ah.refl _) np _ _ hd,mx.all hY λb xs e=>aE (ah.refl _) np _ _ e,rM.two,λx hx=>(hB.mem x).mp (rM.sub x hx),rM.nd,rM.sD⟩)⟩⟩
   ·refine aO (I.ae5 e) λb h0 h1 hb=>aO (I.left h0 h1 hb) λy hy LD _=>⟨y,hy,LD⟩
   ·have:=bG x hx;exact I.left this.1.1 this.1.2 LF
end
def eZ(ac:List Act)(R:List Int)(n:Nat):List Int:=R.filter λi=>decide (∃a,ac[i.toNat]?=a_ a/\a.n=n/\a.k ≠ "look")
def md(ac:List Act)(R:List Int)(c:Nat):Option Int:=(R.filter λi=>decide (∃a,ac[i.toNat]?=a_ a/\a.c=c)).getLast?
structure Ep(ac:List Act)(R:List Int)(i:Int)(a:Act):Prop where
 own:∀l,md ac R a.c=a_ l->l<=i
 seen:a.k ≠ "set"->(eZ ac R a.n).getLast?=a.seen
structure Jg(ac:List Act)(ov:List (List Int))(R:List Int):Prop where
 at':∀(j:Nat) i,R[j]?=a_ i->∀a,ac[i.toNat]?=a_ a->Ep ac (R.take j) i a
 over:∀n,n<12->eZ ac R n=ov.getD n []
theorem zX{ac:List Act}{R:List Int}{i:Int}{a:Act}(h:ac[i.toNat]?=a_ a)(n:Nat):eZ ac (R++[i]) n=eZ ac R n++if a.n=n/\a.k ≠ "look" then [i] else []:=by
 unfold eZ;rw[List.filter_append]
 by_cases e:a.n=n/\a.k ≠ "look"
 ·rw[if_pos e,List.filter_cons_of_pos (by simp only[decide_eq_true_eq];exact⟨a,h,e⟩)];rfl
 ·rw[if_neg e,List.filter_cons_of_neg (by simp only[decide_eq_true_eq];rintro⟨b,hb,z⟩;rw[h]at hb;cases hb;exact e z)];rfl
theorem OB{i:Int}(h:ac[i.toNat]?=a_ a)(c:Nat):md ac (R++[i]) c=if a.c=c then a_ i else md ac R c:=by
 unfold md;rw[List.filter_append]
 by_cases e:a.c=c
 ·rw[if_pos e,List.filter_cons_of_pos (by simp only[decide_eq_true_eq];exact⟨a,h,e⟩),List.filter_nil,List.getLast?_append];rfl
 ·rw[if_neg e,List.filter_cons_of_neg (by simp only[decide_eq_true_eq];rintro⟨b,hb,z⟩;rw[h]at hb;cases hb;exact e z),List.filter_nil,List.append_nil]
structure nM(H0 H:Hp)(ac:List Act)(R:List Int)(kc:List (Key×V)):Prop where
 no:∀n:Nat,bh kc (a_ (n:Int))=b_->eZ ac R n=[]
 at':∀(n:Nat) v,bh kc (a_ (n:Int))=a_ v->∃p,v=.ref p/\H0 p=b_/\H p=a_ (.lst ((eZ ac R n).map V.int))/\eZ ac R n≠[]
 inj:∀(n m:Nat) v,bh kc (a_ (n:Int))=a_ v->bh kc (a_ (m:Int))=a_ v->n=m
theorem nM.look{H0 H:Hp}{ac:List Act}{R:List Int}{kc:List (Key×V)}{i:Int}{a:Act}(h:nM H0 H ac R kc)(ha:ac[i.toNat]?=a_ a)(hk:a.k = "look"):nM H0 H ac (R++[i]) kc:=by
 have e:∀n,eZ ac (R++[i]) n=eZ ac R n:=λn=>by rw[zX ha,if_neg λz=>z.2 hk,List.append_nil]
 exact⟨λn z=>by rw[e];exact h.no n z,λn v z=>by rw[e];exact h.at' n v z,h.inj⟩
theorem nM.old{H0 H H':Hp}{ac:List Act}{R:List Int}{kc:List (Key×V)}{i:Int}{a:Act}{p:e_}(h:nM H0 H ac R kc)(ha:ac[i.toNat]?=a_ a)(hk:a.k ≠ "look")(hv:bh kc (a_ (a.n:Int))=a_ (.ref p))
  (hp:H' p=a_ (.lst ((eZ ac R a.n).map V.int++[.int i]))) (ho:∀b,b≠p->∀xs,H b=a_ (.lst xs)->H' b=a_ (.lst xs)):nM H0 H' ac (R++[i]) kc:=by
 refine⟨λn z=>?_,λn v z=>?_,h.inj⟩
 ·rw[zX ha,if_neg (λq=>by rw[<-q.1,hv]at z;cases z),List.append_nil];exact h.no n z
 ·rw[zX ha];refine cC (h.at' n v z) λb h1 h2 h3 h4=>?_
  by_cases e:a.n=n
  ·subst e;rw[hv]at z;cases z;cases h1;rw[if_pos ⟨rfl,hk⟩];exact⟨p,rfl,h2,by rw[List.map_append];exact hp,λq=>by simp at q⟩
  ·rw[if_neg λq=>e q.1,List.append_nil];exact⟨b,h1,h2,ho b (λq=>e (h.inj _ _ v (by rw[hv,h1,q]) z)) _ h3,h4⟩
theorem nM.ag3{H0 H H':Hp}{ac:List Act}{R:List Int}{kc:List (Key×V)}{i:Int}{a:Act}{p:e_}(h:nM H0 H ac R kc)(ha:ac[i.toNat]?=a_ a)(hk:a.k ≠ "look")(hv:bh kc (a_ (a.n:Int))=b_)(h0:H0 p=b_)(hx:H p=b_)
  (hp:H' p=a_ (.lst [.int i])) (ho:∀b,b≠p->∀xs,H b=a_ (.lst xs)->H' b=a_ (.lst xs)):nM H0 H' ac (R++[i]) (putK kc (a_ (a.n:Int)) (.ref p)):=by
 have nx:∀n:Nat,n≠a.n->bh (putK kc (a_ (a.n:Int)) (.ref p)) (a_ (n:Int))=bh kc (a_ (n:Int)):=λn e=>by rw[ou,if_neg λq=>e (by have:=cu q;lia)]
 have nn:bh (putK kc (a_ (a.n:Int)) (.ref p)) (a_ (a.n:Int))=a_ (.ref p):=by rw[ou,if_pos rfl]
 have old:∀(n:Nat) v,bh kc (a_ (n:Int))=a_ v->v≠.ref p:=λn v z q=>cC (h.at' n v z) λb h1 h2 h3 h4=>by
  rw[q]at h1;cases h1;rw[hx]at h3;cases h3
 refine⟨λn z=>?_,λn v z=>?_,λn m v z1 z2=>?_⟩
 ·by_cases e:n=a.n
  ·subst e;rw[nn]at z;cases z
  ·rw[nx n e]at z;rw[zX ha,if_neg λq=>e q.1.symm,List.append_nil];exact h.no n z
 ·rw[zX ha]
  by_cases e:n=a.n
  ·subst e;rw[nn]at z;cases z;rw[if_pos ⟨rfl,hk⟩,h.no _ hv];exact⟨p,rfl,h0,hp,λq=>by cases q⟩
  ·rw[nx n e]at z;rw[if_neg λq=>e q.1.symm,List.append_nil];exact cC (h.at' n v z) λb h1 h2 h3 h4=>⟨b,h1,h2,ho b (λq=>by rw[q,hx]at h3;cases h3) _ h3,h4⟩
 ·by_cases e1:n=a.n
  ·by_cases e2:m=a.n
   ·rw[e1,e2]
   ·rw[e1,nn]at z1;rw[nx m e2]at z2;exact absurd (cu z1).symm (old m v z2)
  ·rw[nx n e1]at z1
   by_cases e2:m=a.n
   ·rw[e2,nn]at z2;exact absurd (cu z2).symm (old n v z1)
   ·rw[nx m e2]at z2;exact h.inj n m v z1 z2
def uf(n:Nat):List Int:=(List.range n).map λ(i:Nat)=>(i:Int)
theorem B1(ns:List Int):shaped (.list (ns.map oq))=true:=Yp (λe _=>by simp[zI]) λe _=>by simp[F9]
theorem same_ints:∀l m:List Int,same (.list (l.map oq)) (.list (m.map oq))=decide (l=m)
 | [],[]=>by simp[Cm,F7]
 | [],_::_=>by simp[Cm,F7]
 | _::_,[]=>by simp[Cm,F7]
 | a::l,b::m=>by
  have ih:=same_ints l m;simp only[Cm]at ih;rw[List.map_cons,List.map_cons];simp only[Cm,F7];rw[ih]
  by_cases h1:a=b
  ·subst h1
   by_cases h2:l=m
   ·subst h2;simp
   ·simp[h2]
  ·simp[h1]
theorem noMix_ints:∀l m:List Int,noMix (.list (l.map oq)) (.list (m.map oq))=true:=by
 intro l m;show Ac _ _=c_
 induction l generalizing m with
 | nil=>cases m <;> rfl
 | cons a l ih=>
  cases m with
  | nil=>rfl
  | cons b m=>exact ih m
theorem ac'(n:Nat):(uf n).Pairwise (·<=·):=by
 unfold uf;rw[List.pairwise_map];exact(List.pairwise_lt_range (n:=n)).imp λh=>li
theorem abR{n:Nat}(h:zs.Perm ns)(p:zs.Pairwise (·<=·)):decide (zs=uf n)=c_↔ns.Perm (uf n):=by
 rw[decide_eq_true_eq];exact⟨λe=>by rw[<-e];exact h.symm,λe=>List.Perm.eq_of_pairwise (λa b _ _ h1 h2=>Int.le_antisymm h1 h2) p (ac' n) (h.trans e)⟩
theorem Ql{G:Bool->Hp->Prop}(h:∀Qk:Bool->Hp->Prop,(∀b H3,G b H3->Qk b H3)->T σ H Qk)(k:∀b H3,G b H3->if b=c_ then A D σ H3 else B D σ H3):DG T A B D σ H:=h _ k
theorem abD(x y:Option Int):DH (oV x) (oV y)=true:=by cases x <;> cases y <;> rfl
theorem adu{x y:Option Int}(h:oV x=oV y):x=y:=by
 cases x <;> cases y <;> first | rfl | (cases h;rfl) | cases h
theorem acK(h:l≠[]):eU (l.map V.int) (-1)=a_ (oV l.getLast?):=by
 have hl:0<l.length:=List.length_pos_iff.mpr h;unfold eU lz;rw[if_neg qc,List.length_map,if_pos li];show (l.map V.int)[(-1+(l.length:Int)).toNat]?=_;rw[show (-1+(l.length:Int)).toNat=l.length-1 by lia,List.getElem?_map,<-List.getLast?_eq_getElem?,List.getLast?_eq_some_getLast h];rfl
theorem afb{X:Cx}(K:u_)(hu:X.A.units+64<cLine)(h:X.K=K:=by rfl):dD X (fw .NotEq) (Kb K c_):=by subst h;exact QY hu
def Ah(R:List Int)(a b:Int):Prop:=∃i j:Nat,i<j/\R[i]?=a_ a/\R[j]?=a_ b
theorem vW{R:List Int}(h:R.Nodup){i j:Nat}{a:Int}(h1:R[i]?=a_ a)(h2:R[j]?=a_ a):i=j:=by
 have e1:=List.getElem?_eq_some_iff.mp h1;have e2:=List.getElem?_eq_some_iff.mp h2;exact(List.getElem_inj h).mp (e1.2.trans e2.2.symm)
theorem adG{R:List Int}{j:Nat}{a:Int}:a∈R.take j↔∃i,i<j/\R[i]?=a_ a:=by
 rw[List.mem_iff_getElem?];constructor
 ·rintro⟨i,hi⟩;rw[List.getElem?_take]at hi
  split at hi
  ·rename_i h;exact⟨i,h,hi⟩
  ·cases hi
 ·rintro⟨i,h1,h2⟩;exact⟨i,by rw[List.getElem?_take,if_pos h1];exact h2⟩
theorem Dz{R:List Int}(h:R.Nodup){j:Nat}{a b:Int}(hb:R[j]?=a_ b):a∈R.take j↔Ah R a b:=by
 rw[adG];constructor
 ·rintro⟨i,h1,h2⟩;exact⟨i,j,h1,h2,hb⟩
 ·rintro⟨i,k,h1,h2,h3⟩;rw[vW h h3 hb]at h1;exact⟨i,h1,h2⟩
theorem Ah.trans{R:List Int}(h:R.Nodup){a b c:Int}(h1:Ah R a b)(h2:Ah R b c):Ah R a c:=by
 obtain⟨i,j,e1,e2,e3⟩:=h1;obtain⟨k,l,f1,f2,f3⟩:=h2;have:=vW h e3 f2;exact⟨i,l,li,e2,f3⟩
theorem Ah.no{R:List Int}(h:R.Nodup){a b:Int}(h1:Ah R a b)(h2:Ah R b a):False:=by
 obtain⟨i,j,e1,e2,e3⟩:=h1;obtain⟨k,l,f1,f2,f3⟩:=h2;have:=vW h e3 f2;have:=vW h e2 f3;lia
structure Each(M:Nat)(R:List Int):Prop where
 nd:R.Nodup
 mem:∀b:Int,b∈R↔0<=b/\b<M
theorem Each.at'{M:Nat}(h:Each M R){b:Int}(h0:0<=b)(h1:b<M):∃j:Nat,R[j]?=a_ b:=List.mem_iff_getElem?.mp ((h.mem b).mpr ⟨h0,h1⟩)
theorem Each.TV{M:Nat}(h:Each M R){a b:Int}(ha:a∈R)(hb:b∈R)(ne:a≠b):Ah R a b\/Ah R b a:=by
 obtain⟨i,hi⟩:=List.mem_iff_getElem?.mp ha;obtain⟨j,hj⟩:=List.mem_iff_getElem?.mp hb;rcases Fz i j with z | z | z
 ·exact .inl ⟨i,j,z,hi,hj⟩
 ·rw[z,hj]at hi;exact absurd (cu hi).symm ne
 ·exact .inr ⟨j,i,z,hj,hi⟩
theorem KI.each{M:Nat}{B:List T3}(h:KI M B R rd)(hl:R.length=M):Each M R:=by
 refine⟨h.nd,λb=>⟨h.lt b,λhb=>vh λz=>?_⟩⟩
 have:=List.Nodup.length_le_of_subset (l₁:=b::R) (l₂:=(List.range M).map λ(i:Nat)=>(i:Int)) (List.nodup_cons.mpr ⟨z,h.nd⟩) (λc hc=>by
  have iT:0<=c/\c<M:=by
   rcases List.mem_cons.mp hc with q | q
   ·rw[q];exact hb
   ·exact h.lt c q
  exact List.mem_map.mpr ⟨c.toNat,List.mem_range.mpr li,li⟩)
 rw[List.length_map,List.length_range,List.length_cons]at this;lia
theorem KI.agQ{M:Nat}{B:List T3}(h:KI M B R rd)(hl:R.length=M)(hB:∀x∈B,0<=x.2.1/\x.2.1<M):∀x∈B,Ah R x.1 x.2.1:=λx hx=>by
 obtain⟨j,hj⟩:=(h.each hl).at' (hB x hx).1 (hB x hx).2;exact(Dz h.nd hj).mp (h.rs j _ hj x hx rfl)
theorem Gf{α β:Type}[BEq α][LawfulBEq α]:∀{ks:List α} {vs:List β} {i:Nat} {k:α},ks.Nodup->ks[i]?=a_ k->(ks.zip vs).lookup k=vs[i]?
 | [],_,_,_,_,h=>by simp at h
 | _::_,[],_,_,_,_=>by simp
 | x::ks,y::vs,0,k,_,h=>by
  simp at h;subst h;simp[List.lookup_cons]
 | x::ks,y::vs,i+1,k,nd,h=>by
  have h':ks[i]?=a_ k:=by simpa using h
  have ne:(k == x)=false:=beq_eq_false_iff_ne.mpr λz=>(List.nodup_cons.mp nd).1 (z ▸ List.mem_of_getElem? h');rw[List.zip_cons_cons,List.lookup_cons,ne,List.getElem?_cons_succ];exact Gf (List.nodup_cons.mp nd).2 h'
theorem Ox(o:List Int)(h:o.Nodup):nextM o b_=o[0]?:=Gf (i:=0) (Hx h) rfl
theorem Gw(h:o.Nodup){i:Nat}{d:Int}(hi:o[i]?=a_ d):nextM o (a_ d)=o[i+1]?:=Gf (i:=i+1) (Hx h) (by
 show (b_::o.map a_)[i+1]?=_;rw[List.getElem?_cons_succ,List.getElem?_map,hi];rfl)
theorem aaP{o pre:List Int}(h:o.Nodup)(hp:pre <+: o)(s:Option Int)(hs:∀d,s=a_ d->d∈o):pre.getLast?=s↔(∀d,s=a_ d->d∈pre)/\∀b,nextM o s=a_ b->b∉pre:=by
 obtain⟨t,rfl⟩:=hp;have np:=(List.nodup_append.mp h).1;have Fl:∀(i:Nat) b,pre[i]?=a_ b->(pre++t)[i]?=a_ b:=λi b e=>by rw[List.getElem?_append_left (List.getElem?_eq_some_iff.mp e).1];exact e
 constructor
 ·intro e;subst e;refine⟨λd hd=>List.mem_of_getLast? hd,λb hb hm=>?_⟩;obtain⟨k,hk⟩:=List.mem_iff_getElem?.mp hm;cases g:pre.getLast? with
  | none=>
   rw[List.getLast?_eq_none_iff.mp g]at hm;cases hm
  | some l=>
   rw[g,Gw h (Fl (pre.length-1) l (by rw[<-List.getLast?_eq_getElem?];exact g))]at hb;have:=vW h hb (Fl k b hk);have:=(List.getElem?_eq_some_iff.mp hk).1;lia
 ·rintro⟨h1,h2⟩;cases s with
  | none=>
   cases pre with
   | nil=>rfl
   | cons b q=>exact absurd (List.mem_cons_self) (h2 b (by rw[Ox _ h];rfl))
  | some d=>
   obtain⟨k,hk⟩:=List.mem_iff_getElem?.mp (h1 d rfl);have kl:=(List.getElem?_eq_some_iff.mp hk).1
   by_cases z:k+1<pre.length
   ·have g:pre[k+1]?=a_ (pre[k+1]'z):=List.getElem?_eq_getElem z;exact absurd (List.mem_of_getElem? g) (h2 _ (by rw[Gw h (Fl k d hk)];exact Fl _ _ g))
   ·rw[List.getLast?_eq_getElem?,show pre.length-1=k by lia];exact hk
structure nT(S:Mc):Prop where
 z:mw S
 ov:S.ov.length=12
 uG:∀(n:Nat) o,S.ov[n]?=a_ o->∀d:Int,d∈o↔∃(j:Nat) (a:Act),d=(j:Int)/\S.ac[j]?=a_ a/\a.n=n/\a.k ≠ "look"
 sn:∀(j:Nat) a,S.ac[j]?=a_ a->a.k = "set"->a.seen=b_
theorem vp(Z:mw S){x:T3}:x∈iX S↔S0 S x\/(∃j,j<S.ac.length/\qh S j=a_ x)\/(∃n,n<12/\x∈yN S n)\/∃j,j<S.ac.length/\k8 S j=a_ x:=by
 unfold iX mj nF oM oJ;simp only[List.mem_append,List.mem_flatMap,List.mem_filterMap,List.mem_range,or_assoc];refine or_congr ?_ Iff.rfl;constructor
 ·rintro⟨c,h1,h2⟩;exact yK (CV.mp h2) λi j r=>⟨i,j,c,r⟩
 ·rintro⟨i,j,c,r⟩;refine⟨c,?_,CV.mpr ⟨i,j,r⟩⟩;refine ai (lN.mp r.2.2.2.1) λa h1 h2=>?_;rw[<-h2];exact(Z.ok i a h1).c
theorem HJ{r:Int->Int->Prop}(tr:∀a b c,r a b->r b c->r a c):∀{l:List Int},(∀p∈l.zip l.tail,r p.1 p.2)->l.Pairwise r
 | [],_=>.nil
 | [x],_=>by simp
 | x::y::l,h=>by
  have ih:=HJ tr (l:=y::l) λp hp=>h p (by exact List.mem_cons_of_mem _ hp);have uP:r x y:=h (x,y) (by exact List.mem_cons_self);refine List.pairwise_cons.mpr ⟨λz hz=>?_,ih⟩;rcases List.mem_cons.mp hz with e | e
  ·rw[e];exact uP
  ·exact tr _ _ _ uP ((List.pairwise_cons.mp ih).1 z e)
theorem Qy{r:Int->Int->Prop}:∀{l:List Int},l.Pairwise r->∀p∈l.zip l.tail,r p.1 p.2
 | [],_,p,hp=>by cases hp
 | [x],_,p,hp=>by cases hp
 | x::y::l,h,p,hp=>by
  have hp:p∈(x,y)::(y::l).zip l:=hp;rcases List.mem_cons.mp hp with e | e
  ·rw[e];exact(List.pairwise_cons.mp h).1 y (by simp)
  ·exact Qy (l:=y::l) (List.pairwise_cons.mp h).2 p e
theorem aeh{R:List Int}:R.Pairwise (Ah R):=List.pairwise_iff_getElem.mpr λi j hi hj h=>⟨i,j,h,List.getElem?_eq_getElem hi,List.getElem?_eq_getElem hj⟩
theorem Cy{n:Nat}{i:Int}:i∈eZ ac R n↔i∈R/\∃a,ac[i.toNat]?=a_ a/\a.n=n/\a.k ≠ "look":=by
 unfold eZ;rw[List.mem_filter];simp only[decide_eq_true_eq]
section
variable{S:Mc}{R:List Int}
theorem aeb(F:nT S)(e:Each S.ac.length R){n:Nat}(ho:S.ov[n]?=a_ o){i:Int}:i∈eZ S.ac R n↔i∈o:=by
 rw[Cy,F.uG n o ho i];constructor
 ·rintro⟨h1,a,h2,h3⟩;have:=(e.mem i).mp h1;exact⟨i.toNat,a,li,h2,h3⟩
 ·rintro⟨j,a,rfl,h2,h3⟩;have:=(List.getElem?_eq_some_iff.mp h2).1;exact⟨(e.mem _).mpr ⟨li,li⟩,a,by rw[fZ];exact h2,h3⟩
theorem acG(F:nT S)(e:Each S.ac.length R){n:Nat}{o:List Int}(ho:S.ov[n]?=a_ o):eZ S.ac R n=o↔o.Pairwise (Ah R):=by
 have p1:(eZ S.ac R n).Pairwise (Ah R):=aeh.filter _;constructor
 ·intro h;rw[<-h];exact p1
 ·intro h;exact List.Perm.eq_of_pairwise (λa b _ _ h1 h2=>(Ah.no e.nd h1 h2).elim) p1 h ((List.perm_ext_iff_of_nodup (e.nd.filter _) (F.z.nd n o ho)).mpr λa=>aeb F e ho)
theorem tV(F:nT S){n:Nat}(hn:n<12):S.ov[n]?=a_ (S.ov.getD n []):=by
 have h:S.ov[n]?=a_ (S.ov[n]'(by rw[F.ov];exact hn)):=List.getElem?_eq_getElem _;rw[nD h];exact h
theorem ab0(Z:mw S)(e:Each S.ac.length R):(∀x,S0 S x->Ah R x.1 x.2.1)↔∀i k c:Nat,i<k->gA S i=a_ c->gA S k=a_ c->Ah R (i:Int) (k:Int):=by
 constructor
 ·intro h i k c Bs hi hk
  have kl:k<S.ac.length:=by
   exact ai (lN.mp hk) λa h1 _=>(List.getElem?_eq_some_iff.mp h1).1
  have pw:((jD S c S.ac.length).map λ(n:Nat)=>(n:Int)).Pairwise (Ah R):=HJ (r:=Ah R) (λa b c h1 h2=>Ah.trans e.nd h1 h2) λp hp=>by
   have hm:((p.1,p.2,("own" : Str)):T3)∈yO S c:=vO.mpr ⟨hp,rfl⟩;exact yK (CV.mp hm) λi j r=>h (p.1,p.2,"own") ⟨i,j,c,r⟩
  rw[List.pairwise_map]at pw;have as:=Im (S:=S) c S.ac.length;obtain⟨u,hu⟩:=List.mem_iff_getElem?.mp (qd.mpr ⟨tw Bs kl,hi⟩);obtain⟨v,hv⟩:=List.mem_iff_getElem?.mp (qd.mpr ⟨kl,hk⟩);have eu:=List.getElem?_eq_some_iff.mp hu;have ev:=List.getElem?_eq_some_iff.mp hv
  have uv:u<v:=by
   rcases Fz u v with z | z | z
   ·exact z
   ·subst z;rw[hu]at hv;have:=cu hv;lia
   ·have:=List.pairwise_iff_getElem.mp as v u ev.1 eu.1 z;rw[eu.2,ev.2]at this;lia
  have:=List.pairwise_iff_getElem.mp pw u v eu.1 ev.1 uv;rwa[eu.2,ev.2]at this
 ·rintro h x ⟨i,j,c,rfl,h1,h2,h3,h4,_⟩;exact h i j c h1 h3 h4
theorem SW{i:Nat}(h:S.ac[i]?=a_ a):gA S i=a_ a.c:=by unfold gA;rw[h];rfl
theorem aaO(e:Each S.ac.length R)(h:∀(j:Nat) i,R[j]?=a_ i->∀a,S.ac[i.toNat]?=a_ a->∀l,md S.ac (R.take j) a.c=a_ l->l<=i)(c:Nat) :
  ∀j:Nat,j<=R.length->∀x∈R.take j,(∃a,S.ac[x.toNat]?=a_ a/\a.c=c)->∃l,md S.ac (R.take j) c=a_ l/\x<=l:=by
 intro j
 induction j with
 | zero=>intro _ x hx;cases hx
 | succ j ih=>
  intro hj x hx ES;have g:R[j]?=a_ (R[j]' li):=List.getElem?_eq_getElem _;generalize R[j]'_=r at g;have rr:=(e.mem r).mp (List.mem_of_getElem? g);have ga:S.ac[r.toNat]?=a_ (S.ac[r.toNat]' li):=List.getElem?_eq_getElem _;generalize S.ac[r.toNat]'_=b at ga;have tk:R.take (j+1)=R.take j++[r]:=by rw[List.take_add_one,g];rfl
  rw[tk]at hx ⊢;rw[OB ga]
  by_cases eb:b.c=c
  ·rw[if_pos eb];refine⟨r,rfl,?_⟩;rcases List.mem_append.mp hx with z | z
   ·obtain⟨l,h1,h2⟩:=ih li x z ES;have:=h j r g b ga l (by rw[eb];exact h1);lia
   ·rw[List.mem_singleton.mp z];exact zP _
  ·rw[if_neg eb];rcases List.mem_append.mp hx with z | z
   ·exact ih li x z ES
   ·rw[List.mem_singleton.mp z,ga]at ES;obtain⟨a,h1,h2⟩:=ES;cases h1;exact absurd h2 eb
theorem aal(e:Each S.ac.length R):(∀(j:Nat) i,R[j]?=a_ i->∀a,S.ac[i.toNat]?=a_ a->∀l,md S.ac (R.take j) a.c=a_ l->l<=i)↔∀i k c:Nat,i<k->gA S i=a_ c->gA S k=a_ c->Ah R (i:Int) (k:Int):=by
 constructor
 ·intro h i k c Bs hi hk;refine ai (lN.mp hi) λa ha dN=>ai (lN.mp hk) λb hb Ma=>?_;have il:=(List.getElem?_eq_some_iff.mp ha).1;have kl:=(List.getElem?_eq_some_iff.mp hb).1;rcases e.TV ((e.mem (i:Int)).mpr ⟨li,li⟩) ((e.mem (k:Int)).mpr ⟨li,li⟩) li with z | z
  ·exact z
  ·obtain⟨j,hj⟩:=e.at' (b:=(i:Int)) li li;have VQ:=(List.getElem?_eq_some_iff.mp hj).1;obtain⟨l,h1,h2⟩:=aaO e h c j li _ ((Dz e.nd hj).mpr z) ⟨b,by rw[fZ];exact hb,Ma⟩;have:=h j _ hj a (by rw[fZ];exact ha) l (by rw[dN];exact h1);lia
 ·intro h j i hj a ha l hl;have hm:=List.mem_of_getLast? hl;have hm:=List.mem_filter.mp hm;have ht:=(Dz e.nd hj).mp hm.1;obtain⟨b,hb,Ma⟩:=of_decide_eq_true hm.2;have r1:=(e.mem i).mp (List.mem_of_getElem? hj);have r2:=(e.mem l).mp (List.mem_of_mem_take hm.1);refine vh λz=>?_;have:=h i.toNat l.toNat a.c li (SW ha) (by rw[SW hb,Ma]);rw[BQ r1.1,BQ r2.1]at this;exact Ah.no e.nd this ht
end
section
variable{S:Mc}{R:List Int}
theorem O5(F:nT S)(e:Each S.ac.length R)(ho:∀n,n<12->eZ S.ac R n=S.ov.getD n []){j i:Nat}(hj:R[j]?=a_ (i:Int))(ha:S.ac[i]?=a_ a) :
  (eZ S.ac (R.take j) a.n).getLast?=a.seen↔(∀d,a.seen=a_ d->Ah R d (i:Int))/\∀b,nextM (S.ov.getD a.n []) a.seen=a_ b->b≠(i:Int)->Ah R (i:Int) b:=by
 have hn:=(F.z.ok i a ha).n;have eW:=tV F hn;have xn:=ho a.n hn;have nd:=F.z.nd _ _ eW
 have pre:eZ S.ac (R.take j) a.n <+: S.ov.getD a.n []:=by
  rw[<-xn];exact(List.take_prefix j R).filter _
 have hs:∀d,a.seen=a_ d->d∈S.ov.getD a.n []:=λd hd=>ic (F.z.sn i a ha d hd) λk o _ _ h3 h4=>by rw[nD h3];exact h4
 have JU:∀d,d∈S.ov.getD a.n []->(d∈eZ S.ac (R.take j) a.n↔Ah R d (i:Int)):=λd hd=>by
  rw[Cy,Dz e.nd hj];refine⟨λz=>z.1,λz=>⟨z,?_⟩⟩;rw[<-xn]at hd;exact(Cy.mp hd).2
 rw[aaP nd pre a.seen hs];refine and_congr ⟨λh d hd=>(JU d (hs d hd)).mp (h d hd),λh d hd=>(JU d (hs d hd)).mpr (h d hd)⟩ ?_
 ·refine forall_congr' λb=>forall_congr' λhb=>?_;have L9:=Pe hb;rw[JU b L9]
  have hbR:b∈R:=by
   rw[<-xn]at L9;exact(Cy.mp L9).1
  constructor
  ·intro h ne;rcases e.TV hbR (List.mem_of_getElem? hj) ne with z | z
   ·exact absurd z h
   ·exact z
  ·intro h z
   by_cases ne:b=(i:Int)
   ·rw[ne]at z;exact Ah.no e.nd z z
   ·exact Ah.no e.nd z (h ne)
theorem aam(F:nT S)(e:Each S.ac.length R):(∀n,n<12->eZ S.ac R n=S.ov.getD n [])↔∀n,n<12->∀x∈yN S n,Ah R x.1 x.2.1:=by
 refine forall_congr' λn=>forall_congr' λhn=>?_;rw[acG F e (tV F hn)];constructor
 ·intro h x hx;exact Qy h _ (vO.mp hx).1
 ·intro h;exact HJ (r:=Ah R) (λa b c h1 h2=>Ah.trans e.nd h1 h2) λp hp=>h (p.1,p.2,"over") (vO.mpr ⟨hp,rfl⟩)
theorem holds_iff(F:nT S)(e:Each S.ac.length R):Jg S.ac S.ov R↔∀x∈iX S,Ah R x.1 x.2.1:=by
 have eo:=ab0 F.z e;have el:=aal e;have ev:=aam F e;constructor
 ·intro h;have eW:=h.over;have own:=eo.mpr (el.mp λj i hj a ha=>(h.at' j i hj a ha).own)
  have sn:∀(i:Nat) a,S.ac[i]?=a_ a->a.k ≠ "set"->(∀d,a.seen=a_ d->Ah R d (i:Int))/\∀b,nextM (S.ov.getD a.n []) a.seen=a_ b->b≠(i:Int)->Ah R (i:Int) b:=λi a ha hk=>by
   have il:=(List.getElem?_eq_some_iff.mp ha).1;obtain⟨j,hj⟩:=e.at' (b:=(i:Int)) li li;exact(O5 F e eW hj ha).mp ((h.at' j _ hj a (by rw[fZ];exact ha)).seen hk)
  intro x hx;rcases(vp F.z).mp hx with z | ⟨j,h1,h2⟩ | ⟨n,h1,h2⟩ | ⟨j,h1,h2⟩
  ·exact own x z
  ·refine cC (Cr h2) λa f1 f2 f3 _=>?_;rw[f3];exact(sn j a f1 λz=>by rw[F.sn j a f1 z]at f2;cases f2).1 _ f2
  ·exact ev.mp eW n h1 x h2
  ·unfold k8 at h2;refine ai (sZ.mp h2) λa f1 f2=>?_;unfold qf at f2
   split at f2
   ·cases f2
   ·rename_i hk
    refine ai (sZ.mp f2) λb f3 f4=>?_
    split at f4
    ·cases f4
    ·rename_i hb
     cases f4;exact(sn j a f1 hk).2 b f3 hb
 ·intro h;have eW:=ev.mpr λn hn x hx=>h x ((vp F.z).mpr (.inr (.inr (.inl ⟨n,hn,hx⟩))));have own:=el.mpr (eo.mp λx hx=>h x ((vp F.z).mpr (.inl hx)));refine⟨λj i hj a ha=>⟨own j i hj a ha,λhk=>?_⟩,eW⟩;have r:=(e.mem i).mp (List.mem_of_getElem? hj);obtain⟨i1,rfl⟩:∃k:Nat,i=(k:Int):=⟨i.toNat,li⟩;rw[fZ]at ha;have il:=(List.getElem?_eq_some_iff.mp ha).1;refine(O5 F e eW hj ha).mpr ⟨λd hd=>h (d,(i1:Int),"seen") ((vp F.z).mpr (.inr (.inl ⟨i1,il,by unfold qh;rw[ha];show (a.seen).map _=_;rw[hd];rfl⟩))),λb hb ne=>?_⟩
  ·exact h ((i1:Int),b,"ahead") ((vp F.z).mpr (.inr (.inr (.inr ⟨i1,il,by
    unfold k8;rw[ha];show qf S i1 a=_;unfold qf;rw[if_neg hk,hb];exact if_neg ne⟩))))
theorem Y5(F:nT S)(h:KI S.ac.length (iX S) R [])(hl:R.length=S.ac.length):Jg S.ac S.ov R:=(holds_iff F (h.each hl)).mpr (h.agQ hl λx hx=>(GQ F.z hx).2)
end
theorem dh.ful(h:dh S)(e0:∀k∈S.ck,k.es=[])(ho:S.ov.length=12):nT S:=by
 have Z:=h.agN e0;have e1:S.ck.flatMap c7=[]:=List.flatMap_eq_nil_iff.mpr λk hk=>by unfold c7;rw[e0 k hk];rfl
 have p:(iq 0 S.ov).Perm (jm 0 S.ac):=by
  have q:=h.pm;unfold qB at q;rw[e1,List.append_nil]at q;exact q
 refine⟨Z,ho,λn o hn d=>⟨λhd=>?_,?_⟩,λj a ha=>(Z.ok j a ha).s⟩
 ·refine dC (ye.mp (p.mem_iff.mp (yd.mpr ⟨n,o,d,hn,hd,rfl⟩))) λj a h1 h2 h3=>?_;injection h3 with h3 h4
  exact⟨j,a,by rw[h4,vm],h1,li,h2⟩
 ·rintro⟨j,a,rfl,h1,rfl,h2⟩;have hg:=p.mem_iff.mpr (ye.mpr ⟨j,a,h1,h2,rfl⟩);refine iY (yd.mp hg) λn o' d' h4 h5 h6=>?_;injection h6 with h6 h7
  have:n=a.n:=li;subst this;rw[hn]at h4;cases h4;rw[vm]at h7;rw[h7];exact h5
theorem RQ(a b:Int)(h:0<b):0<=a%b/\a%b<b:=⟨FK _ li,Int.emod_lt_of_pos _ h⟩
def C8:Sp:=λvs H Q _=>∃(a:e_) (ns:List Int) (k:Nat),vs=[.ref a,.int (k:Nat)]/\H a=a_ (.lst (ns.map V.int))/\ns.length<=63/\k<=100000/\∀H' (d:Nat),ah H H'->Q (.int (d:Nat)) H'
theorem yi:bf ["_law_script","_law_k","_law_cell","_law_number"] zLj (aR Jw):=bz
theorem ab6(F:aU K "_law_draw" "_law_draw" Jw f fd)(cW:mg "len" = b_):ax P w K mg base ay 1 f fd zLj C8:=by
 refine F.ok yi λaL A _ s H vs Q E hr h=>?_
 ·obtain⟨a,ns,k,aa,ha,hn,hk,q⟩:=h;subst aa;have hu:=Ae hr;refine let R1:TS:=_;let R2:TS:=_;let R3:TS:=_;let R4:TS:=_;let R5:TS:=_;⟨_,ar (bp (i:=2) yi.nd rfl (aF rfl) aq) (pR R5 (ar (bZ (PW.pt (pw_and (bo (Hu hu) (pv 0) (dy af) (a7 _)) (pw_and1 (bo cH (aW gK (aJ cD (pv 0) aq) aq) aq (a7 _))))) (ar (bZ (bo Av (aW fJ aq (aW lX (pv 1) aq)) (bw dP rfl cW q_ (ab (pv 0) af)) (a7 _)) (aG (bp (i:=2) yi.nd rfl (aF rfl) (aJ cD (pv 0) (aW fJ aq (aW lX (pv 1) aq))))) cp) (pR R1 (aG (bg (aW gK (aW adm (pv 2) (aW vK aq (aW gK (pv 1) aq))) (aW adn aq aq)))))) cp) (pR R4 (ar (bZ (bo (Hu hu) (pv 0) (dy af) (a7 _)) (aG (bp (i:=2) yi.nd rfl (aF rfl) (aJ cD (pv 0) (aW gK (pv 1) (bw dP rfl cW q_ (ab (pv 0) af)))))) cp) (pR R3 (ar (bp (i:=3) yi.nd rfl (aF rfl) (aW gK (aW vK (aW fJ (aW fJ (pv 2) (aW vK aq (pv 1))) aq) aq) aq)) (pR R2 (ar (bp (i:=3) yi.nd rfl (aF rfl) (aW gK (aW vK (pv 3) (aW fJ (aW lX (pv 3) aq) aq)) aq)) (aG (bg (aW gK (aW vK (pv 3) (aW fJ (aW lX (pv 3) aq) aq)) aq))))))))))),?_⟩
  have fin:∀(x:Int) H1,ah H H1->0<=x->Q (.int x) H1:=λx H1 s1 hx=>by
   have:=q H1 x.toNat s1;rw[BQ hx]at this;exact this
  have t1:∀(c:Int) H1,ah H H1->R1 { nx:=λ_ H'=>Q .aH H',rt:=Q } [a_ (.ref a),a_ (.int (k:Nat)),a_ (.int c),b_] H1:=λc H1 s1=>by
   refine vr rfl (vr rfl ⟨_,⟨_,rfl,rfl,(show (0:Int)<50 by decide),_,_,rfl,rfl,.inl ⟨qc,qc⟩,_,_,rfl,rfl,?_,_,_,rfl,rfl,⟨qc,qc,qc⟩,_,_,rfl,rfl,?_,fin _ _ s1 (FK _ qc)⟩⟩)
   ·show (0:Int)<=20*((k:Int)%50);have:=FK (k:Int) (show (50:Int)≠0 by decide);lia
   ·show (0:Int)<2^20;decide
  have t3:∀(c:Int) H1,ah H H1->R3 { nx:=λ_ H'=>Q .aH H',rt:=Q } [a_ (.ref a),a_ (.int (k:Nat)),a_ (.int c),b_] H1:=λc H1 s1=>by
   refine vr rfl (vr rfl ⟨_,⟨_,rfl,rfl,.inl ⟨qc,qc⟩,_,_,rfl,rfl,_,_,rfl,rfl,_,_,rfl,rfl,.inr ⟨qc,qc⟩,_,_,rfl,rfl,(show (0:Int)<2147483647 by decide),?_⟩⟩);have hb:=RQ ((c+7919*(k:Nat)+1)*48271) 2147483647 qc;generalize (c+7919*(k:Nat)+1)*48271%2147483647=n1 at hb ⊢;refine aA _ rfl (vr rfl ⟨_,⟨_,rfl,rfl,⟨qc,qc⟩,_,_,rfl,rfl,_,_,rfl,rfl,.inl ⟨li,li⟩,_,_,rfl,rfl,(show (0:Int)<2147483647 by decide),?_⟩⟩);have Fb:=RQ (n1*(n1/1009+69621)) 2147483647 qc;generalize n1*(n1/1009+69621)%2147483647=n2 at Fb ⊢;exact aA _ rfl (vr rfl ⟨_,⟨_,rfl,rfl,⟨qc,qc⟩,_,_,rfl,rfl,_,_,rfl,rfl,.inl ⟨li,li⟩,_,_,rfl,rfl,(show (0:Int)<2147483399 by decide),fin _ _ s1 (FK _ qc)⟩⟩)
  have t4:∀H1,ah H H1->R4 { nx:=λ_ H'=>Q .aH H',rt:=Q } [a_ (.ref a),a_ (.int (k:Nat)),a_ (.int 0),b_] H1:=λH1 s1=>by
   refine vr rfl ⟨qc,(λl nl=>⟨a,l,_,rfl,rfl,aE (ah.refl _) nl _ _ (s1 _ _ ha),ao,_,rfl,lg (λz=>?_) λz=>?_⟩)⟩
   ·have s2:=aE (o:=.lst []) s1 nl;generalize upd H1 l (.lst [])=H2 at s2 ⊢;have qE:0<ns.length:=List.length_pos_iff.mpr λe=>z (by rw[e];rfl);have bG:k%ns.length<ns.length:=zU _ qE;refine vr rfl (vr rfl (vr rfl ⟨a,⟨_,rfl,.inl (ae.of (s2 _ _ ha)),_,_,rfl,rfl,?_,a,_,_,.int (ns[k%ns.length]),rfl,rfl,ae.of (s2 _ _ ha),?_,t3 _ H2 s2⟩⟩))
    ·show (0:Int)<((ns.map V.int).length:Nat);rw[List.length_map];lia
    ·rw[List.length_map,<-MZ];exact cX (by rw[List.getElem?_map,List.getElem?_eq_getElem bG];rfl)
   ·exact t3 0 _ (aE s1 nl)
  refine dQ _ rfl qc λl nl=>(wB a l (gL _ rfl rfl (aE (ah.refl _) nl _ _ ha) ao (aA _ rfl (lg (λz=>?_) λz=>?_))))
  ·have s2:=aE (o:=.lst []) (ah.refl H) nl;generalize upd H l (.lst [])=H2 at s2 ⊢;have qE:0<ns.length:=List.length_pos_iff.mpr λe=>z (by rw[e];rfl);refine vL (v:=.int ns[0]) rfl (ae.of (s2 _ _ ha)) (cX (j:=0) (by rw[List.getElem?_map,List.getElem?_eq_getElem qE];rfl)) ⟨_,_,rfl,rfl,(show (0:Int)<2 by decide),rfl,_,rfl,bQ (λz=>?_) λz=>?_⟩
   ·refine vr rfl ⟨_,⟨_,rfl,rfl,⟨qc,qc⟩,_,_,rfl,rfl,_,rfl,a,_,rfl,.inl (ae.of (s2 _ _ ha)),_,_,rfl,rfl,_,rfl,bQ (λz=>?_) λz=>?_⟩⟩
    ·rw[List.length_map]at z;have e:(1:Int)+(k:Nat)/50=((1+k/50:Nat):Int):=li;have bG:1+k/50<ns.length:=by rw[e]at z;lia
     refine vr rfl (vr rfl ⟨_,⟨_,rfl,rfl,⟨qc,qc⟩,_,_,rfl,rfl,a,_,_,.int (ns[1+k/50]),rfl,rfl,ae.of (s2 _ _ ha),?_,t1 _ H2 s2⟩⟩);rw[e];exact cX (by rw[List.getElem?_map,List.getElem?_eq_getElem bG];rfl)
    ·exact t1 0 H2 s2
   ·exact t4 H2 s2
  ·exact t4 _ (aE (ah.refl H) nl)
theorem ad4(d:Nat)(m:Nat)(hm:0<m):((d:Int)%(m:Nat))=((d%m:Nat):Int)/\d%m<m:=⟨(MZ d m).symm,zU _ hm⟩
inductive sE:Tl->Prop
 | set (n r:Nat) (h1:n<12) (h2:r<3):sE ("set",[n,r])
 | look (r n:Nat) (h1:r<3) (h2:n<12):sE ("look",[r,n])
theorem sE.good{t:Tl}(sz:Nat)(h:sE t):gf sz t:=by
 cases h with
 | set n r h1 h2=>exact .set n r h1 li
 | look r n h1 h2=>exact .look r n li h2
def Dr:Tl:=("skip",[3,0])
def yV(p:Pt):Prop:=∃l:Pt,p=l++[Dr]/\∀t∈l,sE t
def PR:Sp:=λvs H Q _=>∃(a:e_) (ns:List Int),vs=[.ref a]/\H a=a_ (.lst (ns.map V.int))/\ns.length<=63/\∀H' v ps,ah H H'->tS H' v ps->yp ps->(∀p∈ps,yV p)->Q v H'
theorem rG:bf ["_law_script","_law_first","_law_names","_law_parts","_law_clerk","_law_steps","_law_k","_law_draw_here","_law_name"] zLs (aR IH):=bz
theorem afh:(["_law_first","_law_k"]:List Str).Nodup:=dk
theorem aay(F:aU K "_law_program" "_law_program" IH f fd)(di:mg "range" = b_)(lG:mg "tuple" = b_)(cW:mg "len" = b_)
  (GD:ax P w K mg base ay 1 fD ky zLj C8) (kD:x_ K (.ref fD)=c_) (bD:Binds K ky zLj []) (mD:mg "_law_draw" = a_ (.ref fD)) :
  ax P w K mg base ay 2 f fd zLs PR:=by
 refine F.ok rG λaL A _ s H vs Q E hr h=>?_
 ·refine ic h λa ns aa ha hn q=>?_;clear h;subst aa
  refine let R1:TS:=_;let R2:TS:=_;let R3:TS:=_;let R4:TS:=_;let R5:TS:=_;let R6:TS:=_;let R7:TS:=_;let R8:TS:=_;let R9:TS:=_;let fu:TS:=_;⟨_,ar (bp (i:=1) rG.nd rfl (tT rfl) (cU GD hr rfl mD kD bD .nil aT (ab (pv 0) (ab (aq) af)))) (pR fu (ar (tE (i:=2) (N:=["_law_first","_law_k"]) (idx:=[1]) rG.nd rfl rfl rfl (cZ.of (by kernel_rfl)) (gF (aw _)) (jh rfl di (ab (aW fJ (aq) (aW gK (aW lX (pv 1) (aq)) (aq))) af)) (λ_ _ _ _=>bb (i:=1) afh rfl (aF rfl) (.inr rfl)) (λ_ _ _ _=>gZ) λ_ _ _ _=>aW gK (aW fJ (aW lX (pv 0) (aq)) (aW vK (aq) (pv 1))) (aq))
   (pR R9 (ar (bp (i:=3) rG.nd rfl (aF rfl) (dy af)) (pR R8 (ar (hV gr rfl (jh rfl di (ab (aW fJ (aq) (aW gK (pv 1) (aq))) af)) (bb (i:=4) rG.nd rfl (aF rfl)) (pR R6 (ar (bp (i:=5) rG.nd rfl (aF rfl) (dy af)) (pR R5 (ar (hV gr rfl (jh rfl di (ab (aW fJ (aq) (aW gK (cU GD hr rfl mD kD bD .nil aT (ab (pv 0) (ab (aW fJ (aq) (pv 4)) af))) (aq))) af)) (bb (i:=6) rG.nd rfl (aF rfl)) (pR R3 (ar (bp (i:=7) rG.nd rfl (aF rfl) (cU GD hr rfl mD kD bD .nil aT (ab (pv 0) (ab (aW fJ (aW fJ (aq) (aW vK (aq) (pv 4))) (pv 6)) af)))) (pR R2 (ar (bp (i:=8) rG.nd rfl (aF rfl) (aJ cD (pv 2) (aW gK (aW lX (pv 7) (aq)) (bw dP rfl cW q_ (ab (pv 2) af))))) (pR R1 (aG (dq (iK m_ n_ o_ lV (pv 5) (ab (aJ cD (dy (ab (iH (ab (cJ) (ab (pv 8) (ab (aW gK (aW lX (pv 7) (aq)) (aq)) af)))) (ab (iH (ab (cJ) (ab (aW gK (aW lX (pv 7) (aq)) (aq)) (ab (pv 8) af)))) af))) (aW lX (aW fJ (aW gK (pv 7) (aq)) (aq)) (aq))) af)))))))))) (pR R4 (aG (dq (iK m_ n_ o_ lV (pv 3) (ab (pZ zJ rfl lG pX (ab (aW yk (pv 5) (dy (ab (iH (ab (cJ) (ab (aq) (ab (aq) af)))) af))) af)) af)))))))))) (pR R7 (aG (bg (pZ zJ rfl lG pX (ab (pv 3) af))))))))))),?_⟩
  have hsz:=eM;refine vr rfl (jU a ns 0 rfl ha hn qc λH1 d0 s1=>aA _ rfl ⟨_,⟨_,rfl,rfl,⟨qc,qc⟩,_,_,rfl,rfl,(show (0:Int)<3 by decide),_,_,rfl,rfl,_,rfl,li,li,?_⟩⟩);obtain⟨n0,LO,Bk,Bj⟩:∃n0:Nat,(1+(d0:Int)/4%3).toNat=n0/\1<=n0/\n0<=3:=⟨_,rfl,li,li⟩;rw[LO];refine eN (n:=n0) (λj ys H'=>H'=H1/\∃nm:List Nat,ys=(ij nm).map V.int/\nm.length=j/\∀n∈nm,n<12) (by rw[hsz];lia) ⟨rfl,[],rfl,rfl,λn z=>by cases z⟩ ?_ ?_ ?_ ?_ ?_
  ·rintro j ys H' ⟨_,nm,rfl,e,_⟩;rw[List.length_map];unfold ij;rw[List.length_map,e];exact aw _
  ·rintro j ys H' hj _;exact hj
  ·rintro ys H' _;exact aw _
  ·rintro j ys H2 hj ⟨rfl,nm,rfl,e,Bz⟩ x H3 ⟨eH,ex⟩;subst eH;subst ex;refine aA _ rfl ⟨_,⟨_,rfl,rfl,⟨qc,qc⟩,_,rfl,_,_,rfl,rfl,.inl ⟨qc,qc⟩,_,_,rfl,rfl,_,_,rfl,rfl,(show (0:Int)<12 by decide),rfl,nm++[((d0:Int)/16+5*(0+(j:Int))).toNat%12],?_,by rw[List.length_append,e];rfl,λn hn=>?_⟩⟩
   ·unfold ij;rw[List.map_append,List.map_append];show _++[V.int (((d0:Int)/16+5*(0+(j:Int)))%12)]=_++[V.int (((((d0:Int)/16+5*(0+(j:Int))).toNat%12:Nat):Int))]
    congr 3
   ·rcases List.mem_append.mp hn with z | z
    ·exact Bz n z
    ·rw[List.mem_singleton.mp z];exact zU _ qc
  rintro ys H2 ⟨rfl,nm,rfl,enm,Bz⟩;refine⟨by rw[List.length_map];unfold ij;rw[List.length_map,hsz];lia,λln nln=>aO (nw (o:=.lst ((ij nm).map V.int)) nln) λH3 e3 s3 cW=>?_⟩;rw[e3];clear e3;refine⟨qc,λlp U4=>aO (nw (o:=.lst []) U4) λH4 e4 s4 hlp=>?_⟩;rw[e4];clear e4;have jK:=s1.trans s3;refine aA _ rfl ⟨_,⟨_,rfl,rfl,(show (0:Int)<3 by decide),_,_,rfl,rfl,_,rfl,li,li,?_⟩⟩;obtain⟨n4,hn4,hn5,hn6⟩:∃n4:Nat,(2+(d0:Int)%3).toNat=n4/\1<=n4/\n4<=4:=⟨_,rfl,li,li⟩;rw[hn4]
  let W1:IV:=λi σ H'=>∃ys ps w4 w5 w6 w7 w8,σ=[a_ (.ref a),a_ (.int (d0:Nat)),a_ (.ref ln),a_ (.ref lp),w4,w5,w6,w7,w8]/\ah H3 H'/\H' lp=a_ (.lst ys)/\Paired (IsPart H') ys ps/\ps.length=i/\∀p∈ps,p.length<=6/\yV p
  refine rB (n:=n4) W1 ⟨[],[],b_,b_,b_,b_,b_,rfl,s4,hlp,.nil,rfl,λp z=>by cases z⟩ ?_ ?_
  ·rintro i σ H5 hi ⟨ys,ps,w4,w5,w6,w7,w8,rfl,s5,Kx,uO,eL,lH⟩;rw[lQ];have V5:=s5 _ _ (jK _ _ ha);have ahR:=s5 _ _ cW;have y0:=r_ uO;refine⟨qc,λl5 n5=>aO (nw (o:=.lst []) n5) λH6 e6 s6 hl6=>?_⟩;rw[e6];clear e6;refine⟨_,rfl,_,rfl,_,_,rfl,rfl,a,ns,10+i,rfl,s6 _ _ V5,hn,li,λH8 d6 wJ=>⟨_,_,rfl,rfl,(show (0:Int)<5 by decide),_,_,rfl,rfl,_,rfl,li,li,?_⟩⟩;obtain⟨len,hle,eB,LW⟩:∃len:Nat,(1+(d6:Int)%5).toNat=len/\1<=len/\len<=5:=⟨_,rfl,li,li⟩;rw[hle]
   let W2:IV:=λj σ H'=>j<=len/\∃zs ts w6 w7 w8,σ=[a_ (.ref a),a_ (.int (d0:Nat)),a_ (.ref ln),a_ (.ref lp),a_ (.int (i:Nat)),a_ (.ref l5),w6,w7,w8]/\ah H5 H'/\H' l5=a_ (.lst zs)/\Paired (vQ H') zs ts/\ts.length=j/\∀t∈ts,sE t
   refine rB (n:=len) W2 ⟨aP _,[],[],_,_,_,rfl,s6.trans wJ,wJ _ _ hl6,.nil,rfl,λt z=>by cases z⟩ ?_ ?_
   ·rintro j σ H9 hj ⟨_,zs,ts,w6,w7,w8,rfl,s9,LV,Ba,EW,pD⟩;rw[lQ];have yZ:=r_ Ba;refine⟨_,rfl,_,rfl,_,_,rfl,rfl,.inl ⟨qc,qc⟩,_,_,rfl,rfl,_,rfl,_,_,rfl,rfl,a,ns,100+20*i+j,rfl,s9 _ _ V5,hn,li,λBO d iP=>?_⟩;have Sh:=iP _ _ (s9 _ _ ahR);have TB:=iP _ _ LV;have LO:0<nm.length:=li;refine oA (ad4 (d/64) nm.length LO) λena LN=>?_;have VN:((ij nm).map V.int).length=nm.length:=by unfold ij;rw[List.length_map,List.length_map]
    have hat:((ij nm).map V.int)[d/64%nm.length]?=a_ (.int (nm[d/64%nm.length]:Nat)):=by
     unfold ij;rw[List.getElem?_map,List.getElem?_map,List.getElem?_eq_getElem LN];rfl
    have Bh:=Bz _ (List.getElem_mem LN);refine⟨_,rfl,_,rfl,_,_,rfl,rfl,⟨qc,qc⟩,_,rfl,ln,_,rfl,.inl (ae.of Sh),_,_,rfl,rfl,?_,ln,_,_,.int (nm[d/64%nm.length]:Nat),rfl,rfl,ae.of Sh,?_,?_⟩
    ·show (0:Int)<(((ij nm).map V.int).length:Nat);rw[VN];lia
    ·rw[VN];show eU _ (((d:Nat):Int)/(64:Nat)%(nm.length:Nat))=_;rw[<-Int.natCast_ediv,ena];exact cX hat
    generalize nm[d/64%nm.length]=na at Bh ⊢;refine⟨_,rfl,.inl ⟨rfl,_,ae.of TB⟩,_,rfl,_,rfl,_,_,rfl,rfl,⟨qc,qc⟩,_,_,rfl,rfl,(show (0:Int)<3 by decide),sl (n:=3),λt1 Ll=>aO (nw (o:=.tup [.str "set",.int (na:Nat),.int ((d:Int)/16%3)]) Ll) λWJ ve mJ EY=>?_⟩;rw[ve];clear ve;refine⟨_,rfl,_,_,rfl,rfl,⟨qc,qc⟩,_,_,rfl,rfl,(show (0:Int)<3 by decide),_,rfl,sl (n:=3),λt2 nt2=>aO (nw (o:=.tup [.str "look",.int ((d:Int)/16%3),.int (na:Nat)]) nt2) λMz BJ Tf wX=>?_⟩;rw[BJ];clear BJ;refine⟨sl (n:=2),λll Lo=>aO (nw (o:=.lst [.ref t1,.ref t2]) Lo) λxA BI i9 Bp=>?_⟩;rw[BI];clear BI;have JT:=(mJ.trans Tf).trans i9;have V1:d/16%3<3:=zU _ qc;have ebx:(d:Int)/16%3=((d/16%3:Nat):Int):=li;rw[ebx]at EY wX
    obtain⟨tp,tl,ah4,lG,ahA⟩:∃tp tl,eU [V.ref t1,V.ref t2] (((d:Int)%16+10)/16)=a_ (.ref tp)/\xA tp=a_ (.tup (tv tl))/\sE tl:=by
     have hd:d%16<16:=zU _ qc
     by_cases z:d%16<6
     ·rw[show ((d:Int)%16+10)/16=((0:Nat):Int) by lia];exact⟨t1,("set",[na,d/16%3]),cX rfl,i9 _ _ (Tf _ _ EY),.set _ _ Bh V1⟩
     ·rw[show ((d:Int)%16+10)/16=((1:Nat):Int) by lia];exact⟨t2,("look",[d/16%3,na]),cX rfl,i9 _ _ wX,.look _ _ V1 Bh⟩
    have Tz:=JT _ _ TB;have kt:=oz (o:=.lst (zs++[.ref tp])) Tz;refine⟨_,rfl,_,_,rfl,rfl,(show (0:Int)<16 by decide),_,_,rfl,rfl,_,_,rfl,rfl,⟨qc,qc⟩,ll,_,_,.ref tp,rfl,rfl,ae.of Bp,ah4,l5,zs,.ref tp,rfl,rfl,Tz,by rw[hsz];lia,hj,zs++[.ref tp],ts++[tl],_,_,_,rfl,gX ((s9.trans iP).trans JT) n5,ao,kI (Paired.b9 Ba λ_ _ q=>q.keep λb xs e=>kt _ _ (JT _ _ (iP _ _ e))) ⟨tp,rfl,kt _ _ lG⟩,by rw[List.length_append,EW];rfl,λx hx=>(List.mem_append.mp hx).elim (pD x) λz=>by rw[List.mem_singleton.mp z];exact ahA⟩
   ·rintro σ H9 ⟨_,zs,ts,w6,w7,w8,rfl,s9,LV,Ba,EW,pD⟩;have yZ:=r_ Ba;have Tu:=s9 _ _ Kx;refine⟨_,rfl,.inl ⟨rfl,_,ae.of Tu⟩,_,rfl,sl (n:=3),λt1 Ll=>aO (nw (o:=.tup [.str "skip",.int 3,.int 0]) Ll) λWJ ve mJ EY=>?_⟩;rw[ve];clear ve;refine⟨sl (n:=1),λll Lo=>aO (nw (o:=.lst [.ref t1]) Lo) λxA BI i9 Bp=>?_⟩;rw[BI];clear BI;refine⟨l5,ll,zs,[.ref t1],rfl,rfl,i9 _ _ (mJ _ _ LV),Bp,by rw[hsz,yZ,EW];show len+1<=_;lia,λlc wM=>aO (nw (o:=.lst (zs++[.ref t1])) wM) λH15 Wu qH E6=>?_⟩;rw[Wu];clear Wu;refine⟨lc,_,rfl,.inl ⟨ae.of E6,λtp ht=>aO (nw (o:=.tup (zs++[.ref t1])) ht) λxy Wt A6 ahz=>?_⟩⟩;rw[Wt];clear Wt;have DU:=((mJ.trans i9).trans qH).trans A6;have Sg:=DU _ _ Tu;have kt:=oz (o:=.lst (ys++[.ref tp])) Sg;refine⟨lp,ys,_,rfl,rfl,Sg,by rw[hsz];lia,ys++[.ref tp],ps++[ts++[Dr]],_,_,_,_,_,rfl,gX ((s5.trans s9).trans DU) U4,ao,kI (Paired.b9 uO λ_ _ q=>q.keep λb xs e=>kt _ _ (DU _ _ (s9 _ _ e))) ⟨tp,_,rfl,kt _ _ ahz,kI (Paired.b9 Ba λ_ _ q=>q.keep λb xs e=>kt _ _ (DU _ _ e)) ⟨t1,rfl,kt _ _ (A6 _ _ (qH _ _ (i9 _ _ EY)))⟩⟩,by rw[List.length_append,eL];rfl,λx hx=>(List.mem_append.mp hx).elim (lH x) λz=>?_⟩;rw[List.mem_singleton.mp z];exact⟨by rw[List.length_append,EW];show len+1<=6;lia,ts,rfl,pD⟩
  ·rintro σ H5 ⟨ys,ps,w4,w5,w6,w7,w8,rfl,s5,Kx,uO,eL,lH⟩;refine vr rfl (eO lp ys rfl (.inl ⟨ae.of Kx,λtp ht=>?_⟩));have s6:=aE (o:=.tup ys) (ah.refl H5) ht;refine q _ _ ps (jK.trans (s5.trans s6)) ⟨tp,ys,rfl,ao,Paired.b9 uO λ_ _ q=>q.keep λb xs e=>s6 _ _ e⟩ ⟨li,li,λp hp=>⟨by have:=(lH p hp).1;lia,λt ht=>?_⟩⟩ λp hp=>(lH p hp).2;obtain⟨l,rfl,hl⟩:=(lH p hp).2;rcases List.mem_append.mp ht with z | z
   ·exact(hl t z).good _
   ·rw[List.mem_singleton.mp z];exact .skip 3 0 qc (aP _) qc
structure Lp(S:Mc):Prop where
 ps:∀p∈S.ps,yV p
 pl:∀(c:Nat) k p,S.ck[c]?=a_ k->S.ps[c]?=a_ p->k.pl<p.length
 rg:∀k∈S.ck,k.rg.getD 3 0=0
section
variable{S S':Mc}{c n:Nat}{k k':Ck}{s:Tl}{p:Pt}
theorem Lp.up(h:Lp S)(hk:S.ck[c]?=a_ k)(e1:S'.ps=S.ps)(e2:S'.ck=S.ck.set c k')(hp:∀p,S.ps[c]?=a_ p->k'.pl<p.length)(hr:k'.rg.getD 3 0=0):Lp S':=by
 have hc:=(List.getElem?_eq_some_iff.mp hk).1;refine⟨by rw[e1];exact h.ps,λd q p hq uU=>?_,λq hq=>?_⟩
 ·rw[e2]at hq;rw[e1]at uU
  by_cases z:c=d
  ·subst z;rw[List.getElem?_set_self hc]at hq;cases hq;exact hp p uU
  ·rw[List.getElem?_set_ne z]at hq;exact h.pl d q p hq uU
 ·rw[e2]at hq;rcases List.mem_or_eq_of_mem_set hq with z | z
  ·exact h.rg q z
  ·rw[z];exact hr
theorem Lp.carry(h:Lp S):Lp (iI S c n):=by
 unfold iI;cases e:S.ck[c]? with
 | none=>exact h
 | some k=>
  dsimp only;cases (cw k.es n).head? with
  | none=>exact h
  | some x=>exact h.up (k':={ k with es:=gR k.es n }) e rfl rfl (λp hp=>h.pl c k p e hp) (h.rg k (List.mem_of_getElem? e))
theorem Lp.KZ(h:Lp S)(t:sE s)(hk:S.ck[c]?=a_ k):Lp (dm S c s):=by
 have hr:=h.rg k (List.mem_of_getElem? hk);cases t with
 | set i r h1 h2=>
  have e:dm S c ("set",[i,r])=setM S c i r:=by kernel_rfl
  rw[e];unfold setM;rw[hk];dsimp only;have f:Lp (jG (uq S c i k (k.rg.getD r 0)) ⟨"set",c,i,b_,a_ (k.rg.getD r 0),b_⟩):=h.up (k':={ k with tn:=k.tn+1,es:=k.es++[⟨k.tn,i,k.rg.getD r 0,S.ac.length⟩] }) hk rfl rfl (λp hp=>h.pl c k p hk hp) hr
  split
  ·exact f.carry
  ·exact f
 | look r i h1 h2=>
  have e:dm S c ("look",[r,i])=ql S c r i:=by kernel_rfl
  rw[e];unfold ql;rw[hk];dsimp only;unfold nJ;rw[show (jG S ⟨"look",c,i,a_ (cN S k i).1,b_,(cN S k i).2⟩).ck[c]?=a_ k from hk];refine h.up (k':={ k with rg:=k.rg.set r (cN S k i).1 }) hk rfl rfl (λp hp=>h.pl c k p hk hp) ?_;show (k.rg.set r _).getD 3 0=0;rw[List.getD_eq_getElem?_getD,List.getElem?_set_ne li,<-List.getD_eq_getElem?_getD];exact hr
theorem yV.at'(h:yV p){i:Nat}(hi:p[i]?=a_ s):(sE s/\i+1<p.length)\/s=Dr:=by
 obtain⟨l,rfl,hl⟩:=h
 by_cases z:i<l.length
 ·rw[List.getElem?_append_left z]at hi;exact .inl ⟨hl s (List.mem_of_getElem? hi),by rw[List.length_append];show i+1<l.length+1;lia⟩
 ·rw[List.getElem?_append_right li]at hi;exact .inr (List.mem_singleton.mp (List.mem_of_getElem? hi))
theorem Lp.made(h:Lp S)(W:iw n S)(hm:mv∈jA S):Lp (iL S mv):=by
 rcases xU hm with ⟨c,rfl,hc,wq⟩ | ⟨c,k,i,rfl,hk,lK⟩
 ·refine nE (Cz W.wf hc wq) λk p s sz hk aa=>dg aa λhp hs g=>?_;unfold iL;rw[if_pos rfl];show Lp (oX S ((c:Int)).toNat);rw[fZ];unfold oX;rw[hk,hp];dsimp only;rw[hs];refine aO (Qp W g hk) λk' f e1 _=>?_;have iT:(dm S c s).ck[c]?=a_ k':=by rw[f.ck];exact List.getElem?_set_self hc
  have eL:=h.pl c k p hk hp
  have key:Lp (dm S c s)/\gy s k'.rg k'.pl<p.length:=by
   rcases(h.ps p (List.mem_of_getElem? hp)).at' hs with ⟨t,hl⟩ | e
   ·refine⟨h.KZ t hk,?_⟩;rw[e1];cases t <;> exact hl
   ·subst e;have e0:dm S c Dr=S:=by kernel_rfl
    rw[e0]at iT ⊢;refine⟨h,?_⟩;rw[hk]at iT;cases iT;unfold gy;rw[if_pos ⟨rfl,h.rg k (List.mem_of_getElem? hk)⟩];exact tm (aP _) eL
  show Lp (qw (dm S c s) c s);unfold qw;rw[iT];exact key.1.up (k':={ k' with pl:=gy s k'.rg k'.pl,ct:=k'.ct+1 }) iT rfl rfl (λq hq=>by rw[f.ps,hp]at hq;cases hq;exact key.2) (key.1.rg k' (List.mem_of_getElem? iT))
 ·unfold iL;rw[if_neg (show ¬("carry" : Str) = "do" from dk)];exact h.carry
theorem Lp.aeS(h:Lp S)(W:gC S):jA S≠[]:=λe=>by
 have h1:=W.good.ne;have hc:0<S.ck.length:=by rw[W.len];exact h1
 have hk:S.ck[0]?=a_ S.ck[0]:=List.getElem?_eq_getElem hc;have hp:S.ps[0]?=a_ S.ps[0]:=List.getElem?_eq_getElem h1
 have hm:uh S 0=true:=by
  rw[Ij hk hp];exact decide_eq_true (h.pl 0 _ _ hk hp)
 have:(("do" : Str),[(0:Int)])∈jA S:=List.mem_append_left _ (List.mem_map.mpr ⟨0,List.mem_filter.mpr ⟨List.mem_range.mpr hc,hm⟩,rfl⟩);rw[e]at this;cases this
theorem Lp.new{kd:Str}{ps:List Pt}(h:∀p∈ps,yV p):Lp (yv kd ps):=by
 refine⟨h,λc k p hk hp=>?_,λk hk=>?_⟩
 ·obtain⟨l,e,_⟩:=h p (List.mem_of_getElem? hp);have:k∈ps.map λ_=>k0:=List.mem_of_getElem? hk;refine ai (List.mem_map.mp this) λ_ _ z=>?_;rw[<-z,e,List.length_append];show 0<l.length+1;lia
 ·refine ai (List.mem_map.mp (show k∈ps.map λ_=>k0 from hk)) λ_ _ z=>?_;rw[<-z];rfl
end
def gz(S:Mc):Nat:=(S.ck.map λk=>k.es.length).sum
theorem sum_set{α:Type}(f:α->Nat){x y:α}:∀{l:List α} {c:Nat},l[c]?=a_ x->((l.set c y).map f).sum+f x=(l.map f).sum+f y
 | [],_,h=>by simp at h
 | z::l,0,h=>by
  simp at h;subst h;simp only[List.set_cons_zero,List.map_cons,List.sum_cons];lia
 | z::l,c+1,h=>by
  have ih:=sum_set f (y:=y) (l:=l) (c:=c) (by simpa using h);simp only[List.set_cons_succ,List.map_cons,List.sum_cons];lia
theorem Yg{c n:Nat}{k:Ck}(hk:S.ck[c]?=a_ k)(hq:cw k.es n=e::r):gz (iI S c n)<gz S:=by
 have hm:e∈cw k.es n:=by rw[hq];simp
 unfold cw at hm;refine oA (List.mem_filter.mp hm) λh1 h2=>?_;unfold iI;rw[hk];dsimp only;rw[hq];show ((S.ck.set c { k with es:=gR k.es n }).map λk=>k.es.length).sum<_;have h3:=sum_set (λk:Ck=>k.es.length) (y:={ k with es:=gR k.es n }) hk
 have h4:(gR k.es n).length=k.es.length-1:=by
  unfold gR;exact List.length_eraseP_of_mem h1 h2
 have h5:=List.length_pos_of_mem h1;unfold gz;have h6:({ k with es:=gR k.es n }:Ck).es.length=(gR k.es n).length:=rfl;rw[h6,h4]at h3;lia
theorem N6(h:mv∈iU S):∃(c:Nat) (k:Ck) (n:Int),mv=(("carry" : Str),[(c:Int),n])/\S.ck[c]?=a_ k/\n∈gH S.kd k.es:=by
 unfold iU uo at h;refine ai (List.mem_flatMap.mp h) λaa hx hm=>?_;obtain⟨k,c⟩:=aa;unfold AA at hm;refine ai (List.mem_map.mp hm) λn hn aa=>?_;subst aa;exact⟨c,k,n,rfl,(List.mem_zipIdx_iff_getElem?.mp hx),hn⟩
theorem FU(h:mv∈iU S):mv∈jA S:=List.mem_append_right _ h
theorem YT(hwf:∀k∈S.ck,jJ k.tn k.es)(h:mv∈iU S):gz (iL S mv)<gz S:=by
 refine iY (N6 h) λc k n aa hk hf=>?_;subst aa;refine aO (Cg (hwf k (List.mem_of_getElem? hk)) hf) λi _ aa a8=>?_;subst aa;refine yK a8 λe r hq=>?_;unfold iL;rw[if_neg (show ¬("carry" : Str) = "do" from dk)];show gz (iI S ((c:Int)).toNat ((i:Int)).toNat)<gz S;rw[fZ,fZ];exact Yg hk hq
theorem aX.JD{t:aZ}(M:aX t C CT H m A S)(hb:cF m A b):∃o,H b=a_ o/\((∃C dx fs,o=.ins C dx fs)\/∃xs,o=.lst xs):=by
 cases hb with
 | m=>obtain⟨dx,fs,h,_⟩:=M.obj;exact⟨_,h,.inl ⟨_,_,_,rfl⟩⟩
 | lt=>exact⟨_,M.lt,.inr ⟨_,rfl⟩⟩
 | pl=>exact⟨_,M.pl,.inr ⟨_,rfl⟩⟩
 | ct=>exact⟨_,M.ct,.inr ⟨_,rfl⟩⟩
 | rg=>exact⟨_,M.rg,.inr ⟨_,rfl⟩⟩
 | ce=>exact⟨_,M.ce,.inr ⟨_,rfl⟩⟩
 | ac=>obtain⟨vs,h,_⟩:=M.ac;exact⟨_,h,.inr ⟨_,rfl⟩⟩
 | cm=>exact⟨_,M.cm,.inr ⟨_,rfl⟩⟩
 | rs h=>obtain⟨c,_,q⟩:=og M.rs h;exact⟨_,q,.inr ⟨_,rfl⟩⟩
 | cs h=>obtain⟨c,_,q⟩:=og M.cs h;exact⟨_,q,.inr ⟨_,rfl⟩⟩
 | ts h h2=>
  exact ai (og M.ts h) λc _ q=>oE (q.there _ h2) λo e=>⟨o,e,q.kinds _ h2 _ e⟩
theorem aX.DF{t:aZ}(M:aX t C CT H m A S):∀k∈S.ck,jJ k.tn k.es:=λk hk=>by
 refine oE (List.getElem?_of_mem hk) λi hi=>?_;exact ai (M.ue hi) λx _ T=>T.wf
section
variable{t:aZ}{C CT:e_}
def OT(t:aZ)(C CT PT:e_):Sp:=λvs H Q _=>∃m A S lab n,∃J:Mc->Prop,vs=[.ref m]/\aX t C CT H m A S/\jq lab m A/\iw n S/\n+gz S<=10000/\cY PT LP LQ H/\J S/\(∀T n mv,J T->iw n T->(∀k∈T.ck,jJ k.tn k.es)->mv∈iU T->J (iL T mv))/\
 ∀H' l S',J S'->iU S'=[]->gC S'->aX t C CT H' m A S'->aV (cF m A) H H'->Q (.ref l) H'
theorem Cs:bf ["self","made","carries"] zLf (aR HV):=bz
theorem Zh{f fC fD PT:e_}(F:aU K "settle" "Machine.settle" HV f fd)(cM:eP K C)(cW:mg "len" = b_)
  (GC:ax P w K mg base ay 3 fC pL zLf (Gq t C CT PT)) (bC:Binds K pL zLf []) (mC:Meth K C "carries" fC)
  (GD:ax P w K mg base ay 7 fD ky zLt (J6 t C CT PT)) (bD:Binds K ky zLt []) (mD:Meth K C "do" fD):ax P w K mg base ay 8 f fd zLf (OT t C CT PT):=by
 refine F.ok Cs λaL A _ s H vs Q E hr h=>?_
 ·refine fj h λm A S lab n aa=>acj aa λJ aa M L W hn a8=>?_;subst aa;refine nK a8 λlam hJ hJs q=>?_;have uT:=hr.mono (show 3<=7 by decide);refine let R1:TS:=_;let R2:TS:=_;let R3:TS:=_;let R4:TS:=_;let R5:TS:=_;⟨_,ar (bp (i:=1) Cs.nd rfl (aF rfl) (dy af)) (pR R5 (ar (bp (i:=2) Cs.nd rfl (aF rfl) (jT (pv 0) cM.cl mC GC uT bC .nil aT)) (pR R4 (ar (Hr gr (bo vV (bw dP rfl cW q_ (ab (pv 2) af)) aq (a7 _)) (pR R3 (ar (dq (iW (pv 0) cM.cl mD GD hr bD .nil aT (ab (aJ cD (pv 2) aq) af))) (pR R2 (ar (dq (iK m_ n_ o_ lV (pv 1) (ab (aJ cD (pv 2) aq) af))) (pR R1 (aG (bp (i:=2) Cs.nd rfl (aF rfl) (jT (pv 0) cM.cl mC GC uT bC .nil aT))))))))) (aG (bg (pv 1))))))),?_⟩
  have hsz:=eM;refine⟨qc,λlw nw=>?_⟩;have s0:ah H (upd H lw (.lst [])):=aE (ah.refl _) nw;have nV:upd H lw (.lst []) lw=a_ (.lst []):=ao
  have U':¬cF m A lw:=λz=>by
   refine ai (M.JD z) λo e _=>?_;rw[nw]at e;cases e
  generalize upd H lw (.lst [])=H0 at s0 nV ⊢;refine bX (id (M.same s0).obj) λdx fs hm G=>vM rfl hm (G.ms _ dk) (jU m A S rfl (M.same s0) W.wf.four (oh lam s0) λH1 lc cs k1 uB nc hc pI=>⟨λμ σ H2=>∃S' ws lc cs n',σ=[a_ (.ref m),a_ (.ref lw),a_ (.ref lc)]/\μ=gz S'/\J S'/\aX t C CT H2 m A S'/\iw n' S'/\ws.length+gz S'<=gz S/\n'+gz S'<=n+gz S/\cY PT LP LQ H2/\aV (cF m A) H H2/\H2 lw=a_ (.lst ws)/\H2 lc=a_ (.lst cs)/\¬cF m A lc/\lc≠lw/\Paired (jo H2) cs (iU S'),⟨_,S,[],lc,cs,n,rfl,rfl,hJ,(M.same s0).rQ k1,W,by simp,aw _,uB,(aV.of s0).trans (k1.mono λb z=>z.elim),k1.ui nV,hc,λz=>?_,λz=>?_,pI⟩,?_⟩)
  ·refine ai ((M.same s0).JD z) λo e _=>?_;rw[nc]at e;cases e
  ·rw[z,nV]at nc;cases nc
  rintro μ σ H2 ⟨S',ws,lc,cs,n',rfl,rfl,hC,M2,W2,nh,Fb,wj,k2,Bc,Bu,Ls,ncw,TH⟩;have ng:=r_ TH;refine vr rfl (dZ lc cs rfl (.inl (ae.of Bu)) ⟨_,⟨_,rfl,rfl,_,rfl,bQ (λbG=>?_) λpG=>?_⟩⟩)
  ·have qE:0<cs.length:=li;have h0:cs[0]?=a_ cs[0]:=List.getElem?_eq_getElem qE;refine ai (jg TH h0) λmv Bn aa=>ai aa λp ep hp=>?_;have jd:=List.mem_of_getElem? Bn;have D3:=FU jd;have Vy:=YT M2.DF jd;refine⟨λσ' H'=>∃μ',μ'<gz S'/\∃xw Lc EI Ww Vf,σ'=[a_ (.ref m),a_ (.ref lw),a_ (.ref EI)]/\μ'=gz xw/\J xw/\aX t C CT H' m A xw/\iw Vf xw/\Lc.length+gz xw<=gz S/\Vf+gz xw<=n+gz S/\cY PT LP LQ H'/\aV (cF m A) H H'/\H' lw=a_ (.lst Lc)/\H' EI=a_ (.lst Ww)/\¬cF m A EI/\EI≠lw/\Paired (jo H') Ww (iU xw),λσ' H' z=>z,bX (id M2.obj) λsY pK zc G2=>?_⟩;have hat:eU cs (0:Nat)=a_ (.ref p):=by rw[<-ep];exact cX h0
   refine vM rfl zc (G2.ms _ dk) (vr rfl (rL (v:=.ref p) (ae.of Bu) (hat) (⟨m,A,S',p,mv,lab,rfl,M2,L,W2.wf,(W2.T5 li),wj,hp,D3,(λH3 M3 k3 ahp=>?_)⟩)));have wU:=k3.k _ _ U' (λps z=>by cases z) Bc;have lL:=k3.k _ _ Ls (λps z=>by cases z) Bu;refine dQ _ rfl (.inl ⟨rfl,_,ae.of wU⟩) (vr rfl (rL (v:=.ref p) (ae.of lL) (hat) (jU lw ws (.ref p) rfl rfl wU (by rw[hsz];lia) ?_)));have k4:aV (λb=>b=lw) H3 (upd H3 lw (.lst (ws++[.ref p]))):=aV.upd rfl;have M4:=M3.RX k4 λb z=>⟨by rw[z];exact U',λo e=>by rw[z,wU]at e;cases e;exact⟨_,rfl⟩⟩;have Th:=Qi (o:=.lst (ws++[.ref p])) wU ahp;have uQ:upd H3 lw (.lst (ws++[.ref p])) lw=a_ (.lst (ws++[.ref p])):=ao;have K4:aV (cF m A) H (upd H3 lw (.lst (ws++[.ref p]))):=⟨λb o h1 h2 e=>k4.k b o (λz=>by rw[z,nw]at e;cases e) h2 (k3.k b o h1 h2 (k2.k b o h1 h2 e)),λb e=>k2.t b (k3.t b (k4.t b e))⟩;generalize upd H3 lw (.lst (ws++[.ref p]))=H4 at k4 M4 Th uQ K4 ⊢;have W4:=Qh W2 li D3;refine bX (id M4.obj) λdx4 fs4 lJ G4=>vM rfl lJ (G4.ms _ dk) (jU m A (iL S' mv) rfl M4 W4.wf.four Th λH5 lc5 cs5 k5 aho Lr E9 ahZ=>⟨_,⟨Vy,iL S' mv,ws++[.ref p],lc5,cs5,n'+1,rfl,rfl,hJs S' n' mv hC W2 M2.DF jd,M4.rQ k5,W4,by rw[List.length_append];simp;lia,li,aho,K4.trans (k5.mono λb z=>z.elim),k5.ui uQ,E9,λz=>?_,λz=>?_,ahZ⟩⟩)
   ·refine ai (M4.JD z) λo e _=>?_;rw[Lr]at e;cases e
   ·rw[z,uQ]at Lr;cases Lr
  ·have e0:iU S'=[]:=List.length_eq_zero_iff.mp li;exact vr rfl (q H2 lw S' hC e0 W2.wf M2 k2)
end
theorem Qm:∀(l:List Act) (i:Nat),(jm i l).length<=l.length
 | [],_=>aw _
 | a::l,i=>by
  show (mq a i++jm (i+1) l).length<=l.length+1;have:=Qm l (i+1);rw[List.length_append];unfold mq
  split
  ·show 0+_<=_;lia
  ·show 1+_<=_;lia
theorem dh.aeA(h:dh S):gz S<=S.ac.length:=by
 have h1:=h.pm.length_eq;have h2:=Qm S.ac 0;unfold qB at h1;rw[List.length_append,List.length_flatMap]at h1
 have h3:gz S=(S.ck.map λk=>(c7 k).length).sum:=by
  unfold gz c7;simp only[List.length_map]
 lia
theorem aa'{c n:Nat}:(iI S c n).ac=S.ac:=by
 unfold iI;cases e:S.ck[c]? with
 | none=>rfl
 | some k=>
  dsimp only;cases (cw k.es n).head? with
  | none=>rfl
  | some x=>rfl
theorem acs(h:mv∈iU S):(iL S mv).ac=S.ac:=by
 refine iY (N6 h) λc k n aa hk hf=>?_;subst aa;unfold iL;rw[if_neg (show ¬("carry" : Str) = "do" from dk)];exact aa'
structure LI(t:aZ)(C CT PT:e_)(H:Hp)(ls:e_)(ms:List Int)(m:e_)(A:MA)(S:Mc)(n:Nat):Prop where
 M:aX t C CT H m A S
 W:iw n S
 h:dh S
 p:Lp S
 lam:cY PT LP LQ H
 ls:H ls=a_ (.lst (ms.map V.int))
theorem LI.same{t:aZ}{C CT PT:e_}{H H':Hp}{ls:e_}{ms:List Int}{m:e_}{A:MA}{S:Mc}{n:Nat}(I:LI t C CT PT H ls ms m A S n)(s:ah H H'):LI t C CT PT H' ls ms m A S n:=⟨I.M.same s,I.W,I.h,I.p,oh I.lam s,s _ _ I.ls⟩
theorem afe:(["_law_move"]:List Str).Nodup:=dk
section
variable{t:aZ}{C CT PT:e_}
def RC(t:aZ)(C CT PT:e_):Sp:=λvs H Q _=>∃(a:e_) (ns:List Int) (m:e_) (A:MA) (S:Mc) (lab:e_->Nat) (many:Nat),vs=[.ref a,.ref m,.int (many:Nat)]/\many<=2500/\LI t C CT PT H a ns m A S 0/\ns.length<=63/\jq lab m A/\¬cF m A a/\
 ∀H' S',dh S'->S'.ac.length<=many->iU S'=[]->gC S'->aX t C CT H' m A S'->aV (cF m A) H H'->Q .aH H'
theorem Au:bf ["_law_script","_law_machine","_law_many","_law_k","_law_moves","_law_carries"] zLi (aR J7):=bz
theorem adq(F:aU K "_law_run" "_law_run" J7 f fd)(cM:eP K C)(cW:mg "len" = b_)(di:mg "range" = b_)
  (GD:ax P w K mg base ay 1 fD ky zLj C8) (kD:x_ K (.ref fD)=c_) (bD:Binds K ky zLj []) (mD:mg "_law_draw" = a_ (.ref fD))
  (GV:ax P w K mg base ay 4 fV Mq zLf (HN t C CT PT)) (bV:Binds K Mq zLf []) (mV:Meth K C "moves" fV)
  (GDo:ax P w K mg base ay 7 fDo aik zLt (J6 t C CT PT)) (bDo:Binds K aik zLt []) (mDo:Meth K C "do" fDo)
  (GS:ax P w K mg base ay 8 fS kj zLf (OT t C CT PT)) (bS:Binds K kj zLf []) (mS:Meth K C "settle" fS) :
  ax P w K mg base ay 9 f fd zLi (RC t C CT PT):=by
 refine F.ok Au λaL A _ s H vs Q E hr h=>?_
 ·obtain⟨a,ns,m,A,S,lab,many,e,VM,I0,ja,L,nI,q⟩:=h;subst e;have hu:=Ae hr;have fX:=hr.mono (show 1<=8 by decide);have wZ:=hr.mono (show 4<=8 by decide);have y8:=hr.mono (show 7<=8 by decide)
  refine let R1:TS:=_;let R2:TS:=_;let R3:TS:=_;let R4:TS:=_;let R5:TS:=_;⟨_,ar (hV gr rfl (jh rfl di (ab (pv 2) af)) (bb (i:=3) Au.nd rfl (aF rfl)) (pR R4 (ar (bp (i:=4) Au.nd rfl (aF rfl) (jT (pv 1) cM.cl mV GV wZ bV .nil aT)) (pR R3 (ar (tE (i:=5) (N:=["_law_move"]) (idx:=[]) Au.nd rfl rfl rfl (cZ.of (by kernel_rfl)) (gF (aP _)) (nC (pv 4)) (λ_ _ _ _=>bb (i:=0) afe rfl (aF rfl) (.inr rfl)) (λ_ _ _ _=>tJ (bo cH (aJ (vX K) (pv 0) aq) cJ (a7 _))) λ_ _ _ _=>pv 0)
   (pR R2 (ar (bZ (PW.pt (pw_and (bo cH (aW gK (aW lX (pv 3) (aq)) (aq)) aq (a7 _)) (pw_and1 (bo (Hu hu) (pv 5) (dy af) (a7 _))))) (aG (bp (i:=4) Au.nd rfl (aF rfl) (pv 5))) cp) (pR R1 (aG (dq (iW (pv 1) cM.cl mDo GDo y8 bDo .nil aT (ab (aJ cD (pv 4) (aW gK (aW fJ (cU GD fX rfl mD kD bD .nil aT (ab (pv 0) (ab (aW fJ (aq) (pv 3)) af))) (pv 3)) (bw dP rfl cW q_ (ab (pv 4) af)))) af))))))))))))
   (pR R5 (aG (dq (jT (pv 1) cM.cl mS GS hr bS .nil aT)))),?_⟩
  have hsz:=eM;refine⟨_,rfl,_,rfl,li,li,?_⟩;rw[show ((many:Int)).toNat=many by lia]
  let W1:IV:=λi σ H'=>i<=many/\∃S n z3 z4 z5,σ=[a_ (.ref a),a_ (.ref m),a_ (.int (many:Nat)),z3,z4,z5]/\LI t C CT PT H' a ns m A S n/\n<=i/\aV (cF m A) H H'
  refine rB (n:=many) W1 ⟨aP _,S,0,b_,b_,b_,rfl,I0,aw _,aV.refl _⟩ ?_ ?_
  ·rintro i σ H5 hi ⟨_,S,n,z3,z4,z5,rfl,I5,hn,k5⟩;rw[lQ]
   have tC:∀{D:Ends} {H7:Hp} {l:e_} {z5:Option V} {ws:List V} {Lu:List Mv},(∀σ H,W1 (i+1) σ H->D.nx σ H)->LI t C CT PT H7 a ns m A S n->aV (cF m A) H H7->H7 l=a_ (.lst ws)->Paired (jo H7) ws Lu->ws≠[]->(∀mv∈Lu,mv∈jA S)->R1 D [a_ (.ref a),a_ (.ref m),a_ (.int (many:Nat)),a_ (.int (i:Nat)),a_ (.ref l),z5] H7:=λ{D H7 l z5 ws Lu} hD I7 k7 hl jM eA Bn=>by
    have qE:=List.length_pos_iff.mpr eA;refine bX (id I7.M.obj) λdx7 Wk LU G7=>vM rfl LU (G7.ms _ dk) (vr rfl (vr rfl (vr rfl ⟨_,⟨_,rfl,rfl,a,ns,1000+i,rfl,I7.ls,ja,li,λH8 d8 s8=>⟨_,rfl,_,_,rfl,rfl,_,rfl,l,ws,rfl,.inl (ae.of (s8 _ _ hl)),_,_,rfl,rfl,(show (0:Int)<(ws.length:Nat) by lia),?_⟩⟩⟩)));have I8:=I7.same s8;have hj:(d8+i)%ws.length<ws.length:=zU _ qE;have VA:ws[(d8+i)%ws.length]?=a_ ws[(d8+i)%ws.length]:=List.getElem?_eq_getElem hj;refine ai (jg jM VA) λmv ahM aa=>ai aa λp ep hp=>?_;have jd:=Bn mv (List.mem_of_getElem? ahM);exact rL (v:=.ref p) (ae.of (s8 _ _ hl)) (by rw[<-Int.natCast_add,<-MZ,<-ep];exact cX VA) (⟨m,A,S,p,mv,lab,rfl,I8.M,L,I8.W.wf,(I8.W.T5 li),I8.lam,(s8 _ _ hp),jd,(λH9 M9 k9 ahm=>hD _ _ ⟨hi,_,n+1,_,_,_,rfl,⟨M9,Qh I8.W li jd,I8.h.made I8.W I8.M.DF jd,I8.p.made I8.W jd,ahm,k9.k _ _ nI (λps z=>by cases z) I8.ls⟩,li,(k7.trans (aV.of s8)).trans k9⟩)⟩)
   refine bX (id I5.M.obj) λdx5 Wm sP G5=>vM rfl sP (G5.ms _ dk) (jU m A S rfl I5.M I5.W.wf I5.lam λH6 l ws k6 ahn nl hl jM=>?_);have I6:LI t C CT PT H6 a ns m A S n:=⟨I5.M.rQ k6,I5.W,I5.h,I5.p,ahn,k6.ui I5.ls⟩;have k06:=k5.trans (k6.mono λb z=>z.elim);have eA:ws≠[]:=λe=>I6.p.aeS I6.W.wf (List.eq_nil_of_length_eq_zero (by rw[<-r_ jM,e];rfl))
   have jN:ws.length<=3000:=by
    have h1:=HF S S.ck.length;have h2:=CF S.kd S.ck.zipIdx;have h4:=I6.W.wf.four;rw[List.length_zipIdx]at h2;rw[r_ jM,jA,List.length_append,iU];lia
   refine⟨_,rfl,l,rfl,⟨_,ae.of hl⟩,eN (n:=ws.length) (λj ys H'=>H'=H6/\ys.length<=j/\∃cs,Paired (jo H6) ys cs/\∀mv∈cs,mv∈jA S) (by rw[hsz];lia) ⟨rfl,aP _,[],.nil,λmv z=>by cases z⟩ (λj ys H' z=>z.2.1) ?_ ?_ ?_ ?_⟩
   ·rintro j ys H' hj ⟨rfl,_⟩;exact eO _ _ (ae.of hl) (List.getElem?_eq_getElem hj)
   ·rintro ys H' ⟨rfl,_⟩;exact aA _ (ae.of hl) (aw _)
   ·rintro j ys H' hj ⟨rfl,y0,cs,pI,zg⟩ x iE ⟨eH,hx⟩;subst eH;have eV:=hx _ (ae.of hl);refine ai (jg jM eV) λmv Bn aa=>ai aa λp ep hp=>?_;subst ep;refine⟨_,rfl,rT (v:=.str mv.1) (aB.of hp) (show eU (yP mv) ((0:Nat):Int)=_ from cX rfl) ⟨rfl,_,rfl,Kg (λ_=>?_) λ_=>⟨rfl,li,cs,pI,zg⟩⟩⟩;exact⟨_,rfl,rfl,by rw[List.length_append];show _+1<=_;lia,cs++[mv],kI pI ⟨p,rfl,hp⟩,λy hy=>(List.mem_append.mp hy).elim (zg y) λz=>by rw[List.mem_singleton.mp z];exact List.mem_of_getElem? Bn⟩
   rintro ys H' ⟨rfl,y0,cs,pI,zg⟩;refine⟨by rw[hsz];lia,λlc wM=>aO (nw (o:=.lst ys) wM) λH7 e7 s7 E6=>?_⟩;rw[e7];clear e7;have I7:=I6.same s7;have k07:=k06.trans (aV.of s7);have hT:∀b xs,H' b=a_ (.tup xs)->H7 b=a_ (.tup xs):=λb xs e=>s7 _ _ e;have hR2:R2=J0 (DG _ _ _) _:=rfl;show R2 _ _ _;rw[hR2];refine Ql (G:=λb H3=>ah H7 H3/\(b=c_->ys≠[])) (λQk hk=>?_) λb H3 hg=>?_
   ·refine⟨_,rfl,_,_,rfl,rfl,⟨qc,qc⟩,_,_,rfl,rfl,(show (0:Int)<2 by decide),rfl,_,rfl,bQ (λ_=>?_) λ_=>hk _ _ ⟨ah.refl _,λz=>by cases z⟩⟩;refine⟨_,rfl,qc,λle EG=>aO (nw (o:=.lst []) EG) λH8 e8 s8 hle=>?_⟩;rw[e8];clear e8;exact⟨lc,le,ys,rfl,rfl,s8 _ _ E6,hle,_,rfl,hk _ _ ⟨s8,λz=>by simpa using z⟩⟩
   ·obtain⟨s8,hb⟩:=hg;have I8:=I7.same s8;have Vp:=k07.trans (aV.of s8);cases b with
    | true=>exact⟨_,rfl,tC (λσ H h=>h) I8 Vp (s8 _ _ E6) (Paired.b9 pI λ_ _ q=>jo.keep (λb xs e=>s8 _ _ (hT _ _ e)) q) (hb rfl) zg⟩
    | false=>exact dJ (tC (λσ H h=>h) I8 Vp (s8 _ _ (s7 _ _ hl)) (Paired.b9 jM λ_ _ q=>jo.keep (λb xs e=>s8 _ _ (hT _ _ e)) q) eA λmv h=>h)
  ·rintro σ H5 ⟨_,S,n,z3,z4,z5,rfl,I5,hn,k5⟩;have Vy:=I5.h.aeA;have dN:=I5.W.ac;refine bX (id I5.M.obj) λdx5 Wm sP G5=>vM rfl sP (G5.ms _ dk) ⟨m,A,S,lab,n,λT=>(dh T/\Lp T)/\T.ac.length<=many,rfl,I5.M,L,I5.W,li,I5.lam,⟨⟨I5.h,I5.p⟩,li⟩,λT n mv hT W hE h=>⟨⟨hT.1.1.made W hE (FU h),hT.1.2.made W (FU h)⟩,by rw[acs h];exact hT.2⟩,λH6 l6 S6 hJ hc W6 M6 k6=>q H6 S6 hJ.1.1 hJ.2 hc W6 M6 (k5.trans k6)⟩
end
def PU:Sp:=λvs H Q _=>∃(r d o:e_) (R:List Int) (ws:List V) (ac:List Act) (os:List e_) (ov:List (List Int)),vs=[.ref r,.ref d,.ref o]/\H r=a_ (.lst (R.map V.int))/\R.length<=3000/\(∀i∈R,0<=i/\i<ac.length)/\(∀a∈ac,a.k = "set"\/a.k = "look")/\H d=a_ (.lst ws)/\Paired (ig H) ws ac/\
 H o=a_ (.lst (os.map V.ref))/\os.length=12/\(∀(n:Nat) p,os[n]?=a_ p->H p=a_ (.lst ((ov.getD n []).map V.int)))/\∀H' k,ah H H'->(k=c_↔Jg ac ov R)->Q (.bl k) H'
theorem qa:bf ["_law_row","_law_deeds","_law_over","_law_last","_law_came","_law_number","_law_kind","_law_clerk","_law_name","_law_got","_law_gave","_law_seen"] zLk (aR II):=bz
theorem adz:(["_law_came","_law_over","_law_name"]:List Str).Nodup:=dk
theorem aaq(F:aU K "_law_row_holds" "_law_row_holds" II f fd)(di:mg "range" = b_):ax P w K mg base ay 1 f fd zLk PU:=by
 refine F.ok qa λaL A _ s H vs Q E hr h=>?_
 ·obtain⟨r,d,o,R,ws,ac,os,ov,e,hR,hz,bG,hkk,hd,hw,ho,m5,eW,q⟩:=h;subst e;have hu:=Ae hr;refine let R1:TS:=_;let R2:TS:=_;let R3:TS:=_;let R5:TS:=_;let R6:TS:=_;let R7:TS:=_;⟨_,ar (bp (i:=3) qa.nd rfl (aF rfl) z8) (pR R7 (ar (bp (i:=4) qa.nd rfl (tT rfl) z8) (pR R6 (ar (hV gr rfl (nC (pv 0)) (bb (i:=5) qa.nd rfl (aF rfl)) (ar (Df (aJ cD (pv 1) (pv 5)) (kX rfl (dn (bb (i:=6) qa.nd rfl (aF rfl)) (dn (bb (i:=7) qa.nd rfl (aF rfl)) (dn (bb (i:=8) qa.nd rfl (aF rfl)) (dn (bb (i:=9) qa.nd rfl (aF rfl)) (dn (bb (i:=10) qa.nd rfl (aF rfl)) (dn (bb (i:=11) qa.nd rfl (aF rfl)) kQ)))))))) (pR R3 (ar (bZ (PW.pt (pw_or (bo vV (Ht (g9 hr) (pv 3) (pv 7) (Du C4 aq) ⟨rfl,rfl,rfl,rfl⟩) (pv 5) (a7 _)) (pw_or1 (PW.pt (pw_and (bo vU (pv 6) cJ (a7 _)) (pw_and1 (bo vU (aJ cD (Ht (g9 hr) (pv 4) (pv 8) (dy (ab kY af)) ⟨rfl,rfl,rfl,rfl⟩) (Du C4 aq)) (pv 11) (a7 _)))))))) (aG (bg nG)) cp) (pR R2 (ar (Ai (g9 hr) (pv 3) (pv 7) (pv 5) rfl) (pR R1 (aG (bZ (bo cH (pv 6) cJ (a7 _)) (aG (dq (iK m_ n_ o_ lV (Yt (pv 4) (pv 8) (dy af) ⟨rfl,rfl,rfl,rfl⟩) (ab (pv 5) af)))) cp))))))))) (pR R5 (aG (bg (kU (Pb hu) (g6 (N:=["_law_came","_law_over","_law_name"]) (idx:=[4,2]) rfl (cZ.of (by kernel_rfl)) (gF (aw _)) (jh rfl di (ab aq af)) (λ_ _ _ _=>bb (i:=2) adz rfl (aF rfl) (.inr rfl)) (λ_ _ _ _=>tJ (bo (afb K hu) (Ht (g9 hr) (pv 0) (pv 2) (dy af) ⟨rfl,rfl,rfl,rfl⟩) (aJ (Ay K) (pv 1) (pv 2)) (a7 _))) λ_ _ _ _=>pv 2) (dy af) (a7 _))))))))),?_⟩
  have hsz:=eM;refine λll nl=>λlc nc=>?_;have wM:=cG ao nc;have s0:=aE (o:=.dK []) (aE (o:=.dK []) (ah.refl H) nl) nc;have qP:upd (upd H ll (.dK [])) lc (.dK []) ll=a_ (.dK []):=by rw[ag wM];exact ao
  have zh:upd (upd H ll (.dK [])) lc (.dK []) lc=a_ (.dK []):=ao;have ncH:=(aE (o:=.dK []) (ah.refl H) nl).free nc;generalize upd (upd H ll (.dK [])) lc (.dK [])=H0 at s0 qP zh ⊢;refine⟨_,rfl,r,rfl,⟨_,ae.of (s0 _ _ hR)⟩,?_⟩
  let W1:IV:=λi σ H'=>i<=R.length/\∃(x1 x2 x3 x4 x5 x6 x7:Option V) (kl kc:List (Key×V)),σ=[a_ (.ref r),a_ (.ref d),a_ (.ref o),a_ (.ref ll),a_ (.ref lc),x1,x2,x3,x4,x5,x6,x7]/\ah H H'/\H' ll=a_ (.dK kl)/\H' lc=a_ (.dK kc)/\(∀c:Nat,bh kl (a_ (c:Int))=(md ac (R.take i) c).map V.int)/\nM H H' ac (R.take i) kc/\kl.length<=i/\kc.length<=i/\(∀(j:Nat) k,j<i->R[j]?=a_ k->∀a,ac[k.toNat]?=a_ a->Ep ac (R.take j) k a)
  refine x9 (xs:=R.map V.int) W1 ⟨aP _,b_,b_,b_,b_,b_,b_,b_,[],[],rfl,s0,qP,zh,λc=>rfl,⟨λn _=>rfl,λn v e=>(by cases e),λn m v e=>(by cases e)⟩,aw _,aw _,λj k h=>absurd h (pO _)⟩ ?_ ?_ ?_
  ·rintro i σ H' _ ⟨_,x1,x2,x3,x4,x5,x6,x7,kl,kc,rfl,s1,_⟩;exact ae.of (s1 _ _ hR)
  ·rintro i x σ H' pA ⟨_,x1,x2,x3,x4,x5,x6,x7,kl,kc,rfl,s1,eB,va,hL,hC,sR,hkc,Fe⟩;rw[List.getElem?_map]at pA;refine ai (lN.mp pA) λn hn en=>?_;subst en;have hi:i<R.length:=(List.getElem?_eq_some_iff.mp hn).1;have Bh:=bG n (List.mem_of_getElem? hn);obtain⟨n1,rfl⟩:∃k:Nat,n=(k:Int):=⟨n.toNat,li⟩;have jN:=r_ hw;have h1:n1<ac.length:=li;have Vz:ws[n1]?=a_ (ws[n1]' li):=List.getElem?_eq_getElem _;refine ai (jg hw Vz) λa ha aa=>ai aa λp ep hp=>?_;have sV:ac[((n1:Nat):Int).toNat]?=a_ a:=by rw[fZ];exact ha
   have tk:R.take (i+1)=R.take i++[(n1:Int)]:=by rw[List.take_add_one,hn];rfl
   refine⟨_,rfl,_,rfl,rL (v:=.ref p) (ae.of (s1 _ _ hd)) (by rw[<-ep];exact cX Vz) ⟨p,_,rfl,aB.of (s1 _ _ hp),rfl,_,_,rfl,_,_,rfl,_,_,rfl,_,_,rfl,_,_,rfl,_,[],rfl,rfl,?_⟩⟩;have hR3:R3=J0 (DG _ _ _) _:=rfl;show R3 _ _ _;rw[hR3];refine Ql (G:=λb H3=>ah H' H3/\(b=c_↔¬Ep ac (R.take i) (n1:Int) a)) (λQk hk=>?_) λb H3 hg=>?_
   ·refine⟨_,rfl,ll,rfl,.inl ⟨kl,.inl eB⟩,_,rfl,1,rfl,_,dR.k (k:=a_ (a.c:Int)) eB,_,rfl,?_⟩;rw[hL];refine⟨(md ac (R.take i) a.c).getD (-1),_,by cases md ac (R.take i) a.c <;> rfl,rfl,_,rfl,bQ (λe=>hk _ _ ⟨ah.refl _,λ_ ok=>?_,λ_=>rfl⟩) λe=>?_⟩
    ·cases g:md ac (R.take i) a.c with
     | none=>rw[g]at e;have e:((n1:Nat):Int) < -1:=e;lia
     | some l=>rw[g]at e;have e:((n1:Nat):Int)<l:=e;have:=ok.own l g;lia
    have own:∀l,md ac (R.take i) a.c=a_ l->l<=(n1:Int):=λl g=>by rw[g]at e;exact xS.mp e
    refine⟨_,rfl,rfl,_,rfl,lg (λe1=>?_) λe1=>hk _ _ ⟨ah.refl _,λz=>(by cases z),λz=>absurd ⟨own,λw=>absurd (V.str.inj e1) w⟩ z⟩⟩;have BK:a.k ≠ "set":=λz=>e1 (by rw[z]);refine⟨_,rfl,lc,rfl,.inl ⟨kc,.inl va⟩,_,rfl,qc,λlx nx=>⟨_,dR.k (k:=a_ (a.n:Int)) (by rw[ag (cG va nx)];exact va),1,rfl,?_⟩⟩;have s3:=aE (o:=.lst [.aH]) (ah.refl H') nx
    obtain⟨px,xs,ex,qM,hat⟩:∃px xs,(bh kc (a_ (a.n:Int))).getD (.ref lx)=.ref px/\upd H' lx (.lst [.aH]) px=a_ (.lst xs)/\eU xs (-1)=a_ (oV (eZ ac (R.take i) a.n).getLast?):=by
     cases g:bh kc (a_ (a.n:Int))with
     | none=>rw[hC.no _ g];exact⟨lx,_,rfl,ao,rfl⟩
     | some v=>
      exact cC (hC.at' _ v g) λp h1 h2 h3 h4=>⟨p,_,h1,s3 _ _ h3,acK h4⟩
    rw[ex];refine rL (ae.of qM) hat ⟨_,rfl,abD _ _,_,rfl,hk _ _ ⟨s3,?_⟩⟩;rw[Bool.not_eq_true',decide_eq_false_iff_not];exact⟨λz ok=>z (by rw[ok.seen BK]),λz w=>z ⟨own,λ_=>adu w⟩⟩
   obtain⟨s2,hb⟩:=hg;have mJ:=s1.trans s2;cases b with
   | true=>exact q H3 d_ mJ ⟨λz=>(nomatch z),λh=>absurd (h.at' i _ hn a sV) (hb.mp rfl)⟩
   | false=>
    have ok:=vh λz=>absurd (hb.mpr z) dO;have Tx:=s2 _ _ eB;have ah3:=s2 _ _ va;have KD:nM H H3 ac (R.take i) kc:=⟨hC.no,λn v e=>cC (hC.at' n v e) λp h1 h2 h3 h4=>⟨p,h1,h2,s2 _ _ h3,h4⟩,hC.inj⟩;refine dJ ⟨_,rfl,_,rfl,_,rfl,ll,_,rfl,uA.k (k:=a_ (a.c:Int)) Tx (by rw[hsz];lia),?_⟩;have jK:ah H (upd H3 ll (.dK (putK kl (a_ (a.c:Int)) (.int (n1:Nat))))):=gX mJ nl;have sQ:upd H3 ll (.dK (putK kl (a_ (a.c:Int)) (.int (n1:Nat)))) ll=a_ (.dK (putK kl (a_ (a.c:Int)) (.int (n1:Nat)))):=ao;have lL:upd H3 ll (.dK (putK kl (a_ (a.c:Int)) (.int (n1:Nat)))) lc=a_ (.dK kc):=by rw[ag (cB wM)];exact ah3
    have zi:nM H (upd H3 ll (.dK (putK kl (a_ (a.c:Int)) (.int (n1:Nat))))) ac (R.take i) kc:=⟨KD.no,λn v e=>cC (KD.at' n v e) λp h1 h2 h3 h4=>⟨p,h1,h2,by rw[ag (λz=>by rw[z,Tx]at h3;cases h3)];exact h3,h4⟩,KD.inj⟩
    have jQ:∀c:Nat,bh (putK kl (a_ (a.c:Int)) (.int (n1:Nat))) (a_ (c:Int))=(md ac (R.take (i+1)) c).map V.int:=λc=>by
     rw[ou,tk,OB sV,hL]
     by_cases z:a.c=c
     ·subst z;rw[if_pos rfl,if_pos rfl];rfl
     ·rw[if_neg z,if_neg λq=>z (by have:=cu q;lia)]
    have ahV:=pU kl (a_ (a.c:Int)) (.int (n1:Nat));generalize putK kl (a_ (a.c:Int)) (.int (n1:Nat))=EJ at sQ jQ ahV jK lL zi ⊢;generalize upd H3 ll (.dK EJ)=H3 at jK sQ lL zi ⊢
    have KC:∀(j:Nat) k,j<i+1->R[j]?=a_ k->∀a,ac[k.toNat]?=a_ a->Ep ac (R.take j) k a:=λj k hj hk b hb=>by
     by_cases z:j<i
     ·exact Fe j k z hk b hb
     ·have ej:j=i:=li;subst ej;rw[hn]at hk;cases hk;rw[sV]at hb;cases hb;exact ok
    refine⟨_,rfl,rfl,_,rfl,bQ (λe2=>?_) λe2=>?_⟩
    ·have VJ:a.k ≠ "look":=λz=>absurd (z.symm.trans (V.str.inj e2)) dk;have ng:(eZ ac (R.take i) a.n).length<=3000:=cx (List.length_filter_le _ _) (by rw[List.length_take];lia);refine⟨_,rfl,lc,rfl,.inl ⟨kc,.inl lL⟩,_,rfl,qc,λlx nx=>⟨kc,a_ (a.n:Int),by rw[ag (cG lL nx)];exact lL,rfl,by rw[hsz];lia,λv hv=>?_,λhv=>?_⟩⟩
     ·refine cC (zi.at' _ v hv) λp h1 h2 h3 h4=>?_;subst h1;have px:=cG h3 nx;have Wh:upd H3 lx (.lst []) p=a_ (.lst ((eZ ac (R.take i) a.n).map V.int)):=by rw[ag px];exact h3
      have pl:ll≠p:=λz=>by rw[z,h3]at sQ;cases sQ
      have pc:lc≠p:=λz=>by rw[z,h3]at lL;cases lL
      refine⟨.inl ⟨rfl,_,ae.of Wh⟩,_,rfl,p,_,.int (n1:Nat),rfl,rfl,Wh,by rw[hsz,List.length_map];lia,hi,_,_,_,_,_,_,_,EJ,kc,rfl,gX (aE jK nx) h2,?_,?_,jQ,?_,li,li,KC⟩
      ·rw[ag pl,ag (cG sQ nx)];exact sQ
      ·rw[ag pc,ag (cG lL nx)];exact lL
      ·rw[tk];refine zi.old sV VJ hv ao λb hb xs e=>?_;rw[ag hb,ag (cG e nx)];exact e
     ·have xc:lx≠lc:=λz=>by rw[z,lL]at nx;cases nx
      have xl:lx≠ll:=λz=>by rw[z,sQ]at nx;cases nx
      have Vx:upd (upd H3 lx (.lst [])) lc (.dK (putK kc (a_ (a.n:Int)) (.ref lx))) lx=a_ (.lst []):=by rw[ag xc];exact ao
      have hlen:=pU kc (a_ (a.n:Int)) (V.ref lx);refine⟨.inl ⟨rfl,_,ae.of Vx⟩,_,rfl,lx,_,.int (n1:Nat),rfl,rfl,Vx,by rw[hsz];decide,hi,_,_,_,_,_,_,_,EJ,putK kc (a_ (a.n:Int)) (.ref lx),rfl,gX (gX (aE jK nx) ncH) (jK.free nx),?_,?_,jQ,?_,li,li,KC⟩
      ·rw[ag (cB xl),ag wM,ag (cB xl)];exact sQ
      ·rw[ag (cB xc)];exact ao
      ·rw[tk];refine zi.ag3 sV VJ hv (jK.free nx) nx ao λb hb xs e=>?_;rw[ag hb,ag (λz=>by rw[z,lL]at e;cases e),ag hb];exact e
    ·refine⟨hi,_,_,_,_,_,_,_,EJ,kc,rfl,jK,sQ,lL,jQ,?_,li,li,KC⟩;rw[tk];exact zi.look sV ((hkk a (List.mem_of_getElem? ha)).resolve_left λz=>e2 (by rw[z]))
  ·rintro σ H' ⟨_,x1,x2,x3,x4,x5,x6,x7,kl,kc,rfl,s1,eB,va,hL,hC,sR,hkc,Fe⟩;rw[List.length_map]at Fe;rw[List.length_map,List.take_length]at hL hC;refine⟨12,rfl,qc,qc,eN (n:=12) (λi ys H2=>i<=12/\ah H' H2/\ys.length<=i/\(ys=[]↔∀n,n<i->eZ ac R n=ov.getD n [])) (by rw[hsz];decide) ⟨aP _,ah.refl _,aw _,λ_ n h=>absurd h (pO _),λ_=>rfl⟩ ?_ ?_ ?_ ?_ ?_⟩
   ·rintro i ys H2 ⟨_,_,h,_⟩;exact h
   ·rintro i ys H2 hi _;exact hi
   ·rintro ys H2 _;exact aw _
   ·rintro i ys H2 hi ⟨_,s2,y0,uO⟩ v H3 ⟨rfl,rfl⟩;rw[lQ];have VI:os[i]?=a_ (os[i]' li):=List.getElem?_eq_getElem _;have hoi:=eW i _ VI;refine⟨_,rfl,lc,rfl,.inl ⟨kc,.inl (s2 _ _ va)⟩,_,rfl,qc,λlx nx=>⟨_,dR.k (k:=a_ (i:Int)) (by rw[ag (cG (s2 _ _ va) nx)];exact s2 _ _ va),?_⟩⟩;have s3:=aE (o:=.lst []) s2 nx
    obtain⟨px,ex,qM⟩:∃px,(bh kc (a_ (i:Int))).getD (.ref lx)=.ref px/\upd H3 lx (.lst []) px=a_ (.lst ((eZ ac R i).map V.int)):=by
     cases g:bh kc (a_ (i:Int))with
     | none=>rw[hC.no _ g];exact⟨lx,rfl,ao⟩
     | some v=>exact cC (hC.at' _ v g) λp h1 h2 h3 h4=>⟨p,h1,s3 _ _ h3⟩
    rw[ex];have UM:=s1.trans s3;refine⟨_,rfl,_,rfl,rL (v:=.ref _) (ae.of (UM _ _ ho)) (cX (by rw[List.getElem?_map,VI];rfl)) ⟨_,_,i6.lst (ae.of qM) (vq _),i6.lst (ae.of (UM _ _ hoi)) (vq _),B1 _,B1 _,noMix_ints _ _,_,rfl,?_⟩⟩;rw[if_pos rfl,same_ints];refine lg (λe=>?_) λe=>?_
    ·refine vr rfl ⟨hi,s3,by rw[List.length_append];exact qX y0,λz=>(by simp at z),λz=>absurd (z i (zH _)) e⟩
    ·refine⟨hi,s3,vk y0,?_⟩;rw[uO]
     exact⟨λz n hn=>by
      rcases Nat.lt_succ_iff_lt_or_eq.mp hn with h | h
      ·exact z n h
      ·rw[h];exact e,λz n hn=>z n (zF hn)⟩
   ·rintro ys H2 ⟨_,s2,y0,uO⟩;refine⟨by rw[hsz];lia,λl1 n1=>⟨qc,λl2 n2=>⟨l1,l2,ys,rfl,rfl,by rw[ag (cG ao n2)];exact ao,ao,q _ _ (aE (aE (s1.trans s2) n1) n2) ?_⟩⟩⟩;rw[decide_eq_true_iff,uO];exact⟨λz=>⟨λj k hk=>Fe j k (List.getElem?_eq_some_iff.mp hk).1 hk,z⟩,λz=>z.over⟩
def Uq(ov:List (List Int)):Prop:=∀(m j m' j':Nat) (d:Int),(ov.getD m [])[j]?=a_ d->(ov.getD m' [])[j']?=a_ d->m=m'/\j=j'
structure qF(ov:List (List Int))(n i:Nat)(kvs:List (Key×V)):Prop where
 got:∀(m j:Nat) (d:Int),(ov.getD m [])[j]?=a_ d->(m<n\/m=n/\j<i)->bh kvs (a_ d)=a_ (.int (j:Nat))
 back:∀k v,bh kvs k=a_ v->∃(m j:Nat) (d:Int),k=a_ d/\(ov.getD m [])[j]?=a_ d/\v=.int (j:Nat)
 len:kvs.length<=3000*n+i
theorem qF.put{ov:List (List Int)}{n i:Nat}{kvs:List (Key×V)}{d:Int}(h:qF ov n i kvs)(u:Uq ov)(hd:(ov.getD n [])[i]?=a_ d):qF ov n (i+1) (putK kvs (a_ d) (.int (i:Nat))):=by
 refine⟨λm j e he hm=>?_,λk v hv=>?_,cx (pU _ _ _) (qX h.len)⟩
 ·rw[ou]
  by_cases z:e=d
  ·subst z;rw[if_pos rfl];obtain⟨_,ej⟩:=u _ _ _ _ _ he hd;rw[ej]
  ·rw[if_neg λq=>z (cu q)];refine h.got m j e he ?_;rcases hm with hm | ⟨hm,hj⟩
   ·exact .inl hm
   ·refine .inr ⟨hm,Nat.lt_of_le_of_ne (Nat.le_of_lt_succ hj) λq=>z ?_⟩;subst hm q;rw[hd]at he;exact(cu he).symm
 ·rw[ou]at hv
  split at hv
  ·rename_i ek
   cases hv;exact⟨n,i,d,ek,hd,rfl⟩
  ·exact h.back k v hv
theorem qF.row{ov:List (List Int)}{n i:Nat}{kvs:List (Key×V)}(h:qF ov n i kvs)(hl:(ov.getD n []).length=i)(h3:i<=3000):qF ov (n+1) 0 kvs:=by
 refine⟨λm j d hd hm=>h.got m j d hd ?_,h.back,by have:=h.len;lia⟩;rcases hm with hm | ⟨_,hj⟩
 ·by_cases z:m=n
  ·subst z;exact .inr ⟨rfl,by rw[<-hl];exact(List.getElem?_eq_some_iff.mp hd).1⟩
  ·exact .inl li
 ·exact absurd hj (pO _)
def OU:Sp:=λvs H Q _=>∃(o:e_) (os:List e_) (ov:List (List Int)),vs=[.ref o]/\H o=a_ (.lst (os.map V.ref))/\os.length=12/\(∀(n:Nat) p,os[n]?=a_ p->H p=a_ (.lst ((ov.getD n []).map V.int)))/\(∀n,(ov.getD n []).length<=3000)/\Uq ov/\
 ∀H' d kvs,ah H H'->H' d=a_ (.dK kvs)->qF ov 12 0 kvs->Q (.ref d) H'
theorem Ct:bf ["_law_over","_law_places_here","_law_row","_law_k"] ["_law_over"] (aR HW):=bz
theorem Zi(F:aU K "_law_places" "_law_places" HW f fd)(di:mg "range" = b_)(cW:mg "len" = b_):ax P w K mg base ay 1 f fd ["_law_over"] OU:=by
 refine F.ok Ct λaL A _ s H vs Q E hr h=>?_
 ·obtain⟨o,os,ov,e,ho,m5,eW,h3,u,q⟩:=h;subst e;refine let R1:TS:=_;let R2:TS:=_;let R3:TS:=_;let R4:TS:=_;⟨_,ar (bp (i:=1) Ct.nd rfl (aF rfl) z8) (pR R4 (ar (hV gr rfl (nC (pv 0)) (bb (i:=2) Ct.nd rfl (aF rfl)) (pR R2 (aG (hV gr rfl (jh rfl di (ab (bw dP rfl cW q_ (ab (pv 2) af)) af)) (bb (i:=3) Ct.nd rfl (aF rfl)) (pR R1 (aG (Ai (g9 hr) (pv 1) (aJ cD (pv 2) (pv 3)) (pv 3) rfl))))))) (pR R3 (aG (bg (pv 1)))))),?_⟩
  have hsz:=eM;refine λld nd=>?_;have s0:=aE (o:=.dK []) (ah.refl H) nd;refine⟨_,rfl,o,rfl,⟨_,ae.of (s0 _ _ ho)⟩,?_⟩
  let W1:IV:=λn σ H'=>∃z2 z3 kvs,σ=[a_ (.ref o),a_ (.ref ld),z2,z3]/\ah H H'/\H' ld=a_ (.dK kvs)/\qF ov n 0 kvs
  refine x9 (xs:=os.map V.ref) W1 ⟨b_,b_,[],rfl,s0,ao,λm j d _ h=>(h.elim (λh=>absurd h (pO _)) λh=>absurd h.2 (pO _)),λk v e=>(by cases e),aP _⟩ ?_ ?_ ?_
  ·rintro n σ H' _ ⟨z2,z3,kvs,rfl,s1,_⟩;exact ae.of (s1 _ _ ho)
  ·rintro n x σ H1 hx ⟨z2,z3,kvs,rfl,s1,uY,hP⟩;rw[List.getElem?_map]at hx;refine ai (lN.mp hx) λp hp ep=>?_;subst ep;have ajb:n<12:=by rw[<-m5];exact(List.getElem?_eq_some_iff.mp hp).1
   have ahD:=s1 _ _ (eW n p hp);have h3n:=h3 n;refine⟨_,rfl,p,_,rfl,.inl (ae.of ahD),_,rfl,by rw[List.length_map];lia,by rw[List.length_map];lia,?_⟩;rw[show ((((ov.getD n []).map V.int).length:Int)).toNat=(ov.getD n []).length by rw[List.length_map];lia]
   let W2:IV:=λi σ H'=>i<=(ov.getD n []).length/\∃z3 kvs,σ=[a_ (.ref o),a_ (.ref ld),a_ (.ref p),z3]/\ah H H'/\H' ld=a_ (.dK kvs)/\qF ov n i kvs
   refine rB (n:=(ov.getD n []).length) W2 ⟨aP _,z3,kvs,rfl,s1,uY,hP⟩ ?_ ?_
   ·rintro i σ H2 hi ⟨_,z3,kvs,rfl,s2,hd2,hP⟩;rw[lQ];have hl:=hP.len;have hit:(ov.getD n [])[i]?=a_ ((ov.getD n [])[i]):=List.getElem?_eq_getElem hi;refine⟨_,rfl,_,rfl,_,rfl,_,rfl,rL (v:=.int ((ov.getD n [])[i])) (ae.of (s2 _ _ (eW n p hp))) (cX (by rw[List.getElem?_map,hit];rfl)) ⟨ld,_,rfl,uA.k (k:=a_ ((ov.getD n [])[i])) hd2 (by rw[hsz];lia),hi,_,_,rfl,gX s2 nd,ao,hP.put u hit⟩⟩
   ·rintro σ H2 ⟨_,z3,kvs,rfl,s2,hd2,hP⟩;exact⟨_,_,kvs,rfl,s2,hd2,hP.row rfl h3n⟩
  ·rintro σ H1 ⟨z2,z3,kvs,rfl,s1,uY,hP⟩;rw[List.length_map,m5]at hP;exact vr rfl (q H1 ld kvs s1 uY hP)
theorem ady:(["_law_deeds","_law_one","_law_deed"]:List Str).Nodup:=dk
structure t9(H:Hp)(d pl:e_)(ws:List V)(kvs:List (Key×V))(S:Mc):Prop where
 d:H d=a_ (.lst ws)
 w:Paired (ig H) ws S.ac
 n:S.ac.length<=3000
 pl:H pl=a_ (.dK kvs)
 P:qF S.ov 12 0 kvs
 F:nT S
theorem t9.same{H H':Hp}{d pl:e_}{ws:List V}{kvs:List (Key×V)}{S:Mc}(I:t9 H d pl ws kvs S)(s:ah H H'):t9 H' d pl ws kvs S:=⟨s _ _ I.d,Paired.b9 I.w λ_ _ q=>ai q λp e h=>⟨p,e,s _ _ h⟩,I.n,s _ _ I.pl,I.P,I.F⟩
theorem t9.at'{H:Hp}{d pl:e_}{ws:List V}{kvs:List (Key×V)}{S:Mc}{i:Nat}{a:Act}(I:t9 H d pl ws kvs S)(h:S.ac[i]?=a_ a):∃p,eU ws (i:Int)=a_ (.ref p)/\H p=a_ (.tup (Kl a)):=by
 refine ai (pS I.w h) λv hv q=>ai q λp e hp=>⟨p,?_,hp⟩;rw[<-e];exact cX hv
theorem vS{ws:List V}{kvs:List (Key×V)}{n j:Nat}{b:Int}(I:t9 H d pl ws kvs S)(h:(S.ov.getD n [])[j]?=a_ b):bh kvs (a_ b)=a_ (.int (j:Nat)):=by
 refine I.P.got n j b h (.inl ?_);rw[<-I.F.ov];refine vh λz=>?_;rw[List.getD_eq_getElem?_getD,List.getElem?_eq_none (l:=S.ov) (i:=n) li]at h;cases h
theorem ahb(us:List V)(i j:Nat)(h:i<=j)(hj:j<=us.length):ik us (a_ (i:Int)) (a_ (j:Int))=(us.drop i).take (j-i):=by
 unfold ik;rw[HT.CP,HT.CP,nZ hj,nZ (cx h hj)]
theorem QB{l:List Int}{a b:Int}(h:(a,b)∈l.zip l.tail):∃k:Nat,l[k]?=a_ a/\l[k+1]?=a_ b:=by
 obtain⟨k,hk⟩:=List.getElem?_of_mem h;have:=List.getElem?_zip_eq_some.mp hk;exact⟨k,this.1,by rw[<-List.getElem?_tail];exact this.2⟩
theorem SV{i c:Nat}(h:gA S i=a_ c):∃a,S.ac[i]?=a_ a/\a.c=c:=by
 unfold gA at h;exact lN.mp h
def QJ:Sp:=λvs H Q _=>∃(d pl:e_) (ws:List V) (kvs:List (Key×V)) (S:Mc) (x:T3),vs=[.int x.1,.int x.2.1,.str x.2.2,.ref d,.ref pl]/\t9 H d pl ws kvs S/\x∈iX S/\∀H',ah H H'->Q (.bl c_) H'
theorem An:bf ["_law_one","_law_other","_law_why","_law_deeds","_law_places_here","_law_between","_law_seen","_law_due"] zLa (aR Js):=bz
theorem ab'{f:e_}{fd:lW}(F:aU K "_law_pair_holds" "_law_pair_holds" Js f fd):ax P w K mg base ay 1 f fd zLa QJ:=by
 refine F.ok An λaL A _ s H vs Q E hr h=>?_
 ·obtain⟨d,pl,ws,kvs,S,x,e,I,hx,q⟩:=h;subst e;have hu:=Ae hr
  refine let R1:TS:=_;let R2:TS:=_;let R3:TS:=_;let R4:TS:=_;let R5:TS:=_;let R6:TS:=_;let R7:TS:=_;let R8:TS:=_;let R9:TS:=_;let fu:TS:=_;let nY:TS:=_;let xx:TS:=_;⟨_,ar (bZ (bo cH (pv 2) (cJ) (a7 _)) (pR R2 (ar (tE (i:=5) (N:=["_law_deeds","_law_one","_law_deed"]) (idx:=[3,0]) An.nd rfl rfl rfl (cZ.of (by kernel_rfl)) (gF (aw _)) (nC (x8 CM (pv 3) (vC (aW fJ (pv 0) (aq))) (vC (pv 1)))) (λ_ _ _ _=>bb (i:=2) ady rfl (aF rfl) (.inr rfl)) (λ_ _ _ _=>tJ (bo cH (aJ (vX K) (pv 2) aq) (aJ (vX K) (aJ (Ay K) (pv 0) (pv 1)) aq) (a7 _))) λ_ _ _ _=>pv 2)
   (pR R1 (aG (bg (rK (kU Av (pv 0) (pv 1) (a7 _)) (rK (kU cH (aJ cq (aJ cD (pv 3) (pv 0)) (aq)) (aJ cq (aJ cD (pv 3) (pv 1)) (aq)) (a7 _)) (tP (kU (Pb hu) (pv 5) (dy af) (a7 _)))))))))) cp)
   (pR xx (ar (bZ (bo cH (pv 2) (cJ) (a7 _)) (pR R3 (aG (bg (kU cH (aJ cq (aJ cD (pv 3) (pv 1)) (aq)) (pv 0) (a7 _))))) cp) (pR nY (ar (bZ (PW.pt (pw_or (bo vU (aJ cq (aJ cD (pv 3) (pv 0)) (aq)) (aJ cq (aJ cD (pv 3) (pv 1)) (aq)) (a7 _)) (pw_or1 (IT (Gu (g9 hr) (pv 1) (pv 4)))))) (aG (bg nG)) cp) (pR fu (ar (bZ (bo cH (pv 2) (cJ) (a7 _)) (pR R4 (aG (bg (rK (adi (adk (g9 hr) (pv 0) (pv 4))) (tP (kU cH (vE (g9 hr) (pv 4) (pv 1) λ_ _=>rfl) (aW fJ (vE (g9 hr) (pv 4) (pv 0) λ_ _=>rfl) (aq)) (a7 _))))))) cp) (pR R9 (ar (bp (i:=6) An.nd rfl (aF rfl) (aJ cq (aJ cD (pv 3) (pv 0)) (aq))) (pR R8 (ar (bp (i:=7) An.nd rfl (aF rfl) (aq)) (pR R7 (ar (bZ (bo Ih (pv 6) (kY) (a7 _)) (pR R5 (aG (bp (i:=7) An.nd rfl (aF rfl) (aW fJ (vE (g9 hr) (pv 4) (pv 6) λ_ _=>rfl) (aq))))) cp) (pR R6 (aG (bg (rK (kU cH (pv 2) (cJ) (a7 _)) (rK (kU cH (aJ cq (aJ cD (pv 3) (pv 0)) (aq)) (cJ) (a7 _)) (tP (kU cH (vE (g9 hr) (pv 4) (pv 1) λ_ _=>rfl) (pv 7) (a7 _)))))))))))))))))))),?_⟩
  have hsz:=eM;have jN:=r_ I.w;have h3:=I.n;rcases(vp I.F.z).mp hx with ⟨i,j,c,rfl,sS,hj,hci,hcj,hbt⟩ | ⟨j,hj,hs⟩ | ⟨n,hn,ho⟩ | ⟨j,hj,ha⟩
  ·refine ai (SV hci) λa ha ea=>ai (SV hcj) λb hb eb=>⟨_,rfl,rfl,_,rfl,bQ (λ_=>?_) λz=>absurd rfl z⟩;refine⟨_,rfl,_,rfl,_,_,rfl,rfl,_,rfl,_,rfl,_,rfl,d,ws,rfl,ae.of I.d,λl1 n1=>aO (nw (o:=.lst (ik ws (a_ ((i:Int)+1)) (a_ (j:Int)))) n1) λH1 e1 s1 eB=>?_⟩;rw[e1];clear e1;have I1:=I.same s1;have ec:ik ws (a_ ((i:Int)+1)) (a_ (j:Int))=(ws.drop (i+1)).take (j-(i+1)):=ahb ws (i+1) j sS li;rw[ec]at eB;have lc:((ws.drop (i+1)).take (j-(i+1))).length=j-(i+1):=by rw[List.length_take,List.length_drop];lia
   refine⟨l1,rfl,⟨_,ae.of eB⟩,eN (n:=j-(i+1)) (λk ys H'=>ys=[]/\H'=H1) (by rw[hsz];lia) ⟨rfl,rfl⟩ (λk ys H' z=>by rw[z.1];exact aP _) ?_ ?_ ?_ ?_⟩
   ·rintro k ys H' hk ⟨rfl,rfl⟩;exact eO _ _ (ae.of eB) (List.getElem?_eq_getElem li)
   ·rintro ys H' ⟨rfl,rfl⟩;exact aA _ (ae.of eB) li
   ·rintro k ys H' hk ⟨rfl,rfl⟩ v iE ⟨eH,hv⟩;subst eH;have EU:=hv _ (ae.of eB);rw[List.getElem?_take,if_pos hk,List.getElem?_drop]at EU;refine ai (jg I1.w EU) λg hg zq=>ai zq λp ep hp=>ai (I1.at' ha) λpa fh mX=>?_;subst ep;have eA:g.c≠a.c:=λz=>hbt (i+1+k) li li (by unfold gA;rw[hg];show a_ g.c=a_ c;rw[z,ea]);refine⟨_,rfl,rT (v:=.int (g.c:Nat)) (aB.of hp) rfl ⟨_,rfl,_,rfl,rL (ae.of I1.d) fh (rT (v:=.int (a.c:Nat)) (aB.of mX) rfl ⟨rfl,_,rfl,?_⟩)⟩⟩;rw[vH,decide_eq_false eA];exact⟨rfl,rfl⟩
   rintro ys H' ⟨rfl,rfl⟩;refine⟨sl (n:=0),λlb wN=>aO (nw (o:=.lst []) wN) λH2 e2 s2 hlb=>?_⟩;rw[e2];clear e2;have I2:=I1.same s2;refine ai (I2.at' ha) λpa fh mX=>ai (I2.at' hb) λpb Bf wW=>⟨_,rfl,_,rfl,_,_,rfl,rfl,_,rfl,bQ (λ_=>?_) λz=>absurd (show (i:Int)<(j:Int) by lia) z⟩;refine⟨_,rfl,_,rfl,rL (ae.of I2.d) fh (rT (v:=.int (a.c:Nat)) (aB.of mX) rfl ⟨_,rfl,_,rfl,rL (ae.of I2.d) Bf (rT (v:=.int (b.c:Nat)) (aB.of wW) rfl ⟨rfl,_,rfl,bQ (λ_=>?_) λz=>absurd (by rw[ea,eb]) z⟩)⟩)⟩;exact⟨_,rfl,qc,λle EG=>⟨lb,le,[],rfl,rfl,aE (ah.refl _) EG _ _ hlb,ao,q _ (aE (s1.trans s2) EG)⟩⟩
  ·refine cC (Cr hs) λa ha e1 e2 e3=>?_;obtain⟨x1,x2,x3⟩:=x;dsimp only at e1 e2 e3;subst e2 e3;refine ai (I.at' ha) λpa fh mX=>⟨_,rfl,rfl,_,rfl,bQ (λz=>absurd (V.str.inj z) (show ¬("seen" : Str) = "own" from dk)) λ_=>⟨_,rfl,rfl,_,rfl,bQ (λ_=>?_) λz=>absurd rfl z⟩⟩;refine⟨_,rfl,_,rfl,rL (ae.of I.d) fh (rT (v:=oV a.seen) (aB.of mX) rfl ⟨_,rfl,by rw[e1];rfl,?_⟩)⟩;rw[e1,decide_eq_true (show oV (a_ x1)=V.int x1 from rfl)];exact q _ (ah.refl _)
  ·refine oA (vO.mp ho) λh1 h2=>?_;obtain⟨x1,x2,x3⟩:=x;dsimp only at h1 h2;subst h2;obtain⟨k,uW,qQ⟩:=QB h1;have sO:=tV I.F hn;obtain⟨i,a,rfl,ha,Md,_⟩:=(I.F.uG n _ sO x1).mp (List.mem_of_getElem? uW);obtain⟨j,b,rfl,hb,L',_⟩:=(I.F.uG n _ sO x2).mp (List.mem_of_getElem? qQ);refine ai (I.at' ha) λpa fh mX=>ai (I.at' hb) λpb Bf wW=>⟨_,rfl,rfl,_,rfl,bQ (λz=>absurd (V.str.inj z) (show ¬("over" : Str) = "own" from dk)) λ_=>⟨_,rfl,rfl,_,rfl,bQ (λz=>absurd (V.str.inj z) (show ¬("over" : Str) = "seen" from dk)) λ_=>⟨_,rfl,_,rfl,rL (ae.of I.d) fh (rT (v:=.int (a.n:Nat)) (aB.of mX) rfl ⟨_,rfl,_,rfl,rL (ae.of I.d) Bf (rT (v:=.int (b.n:Nat)) (aB.of wW) rfl ⟨rfl,_,rfl,?_⟩)⟩)⟩⟩⟩;rw[Md,L'];refine lg (λz=>absurd rfl z) λ_=>⟨_,rfl,_,rfl,pl,_,rfl,dR.k (k:=a_ (j:Int)) I.pl,_,rfl,?_⟩;rw[vS I qQ];refine dJ ⟨_,rfl,rfl,_,rfl,bQ (λ_=>?_) λz=>absurd rfl z⟩;refine⟨_,rfl,_,rfl,pl,_,rfl,dR.k (k:=a_ (i:Int)) I.pl,_,rfl,?_⟩;rw[vS I uW];refine r6 ⟨_,rfl,_,rfl,pl,.int ((k+1:Nat):Int),rfl,by rw[<-vS I qQ];exact dR.k (k:=a_ (j:Int)) I.pl,_,rfl,_,rfl,pl,.int (k:Nat),rfl,by rw[<-vS I uW];exact dR.k (k:=a_ (i:Int)) I.pl,_,_,rfl,rfl,rfl,?_⟩;rw[decide_eq_true (show V.int ((k+1:Nat):Int)=V.int ((k:Int)+1) from rfl)];exact q _ (ah.refl _)
  ·have e0:=ha;unfold k8 at e0;refine ai (sZ.mp e0) λa Br e1=>?_;unfold qf at e1
   by_cases si:a.k = "set"
   ·rw[if_pos si]at e1;cases e1
   rw[if_neg si]at e1;refine ai (sZ.mp e1) λb hb e2=>?_
   by_cases V2:b=(j:Int)
   ·rw[if_pos V2]at e2;cases e2
   rw[if_neg V2]at e2;cases e2;have hk:=((I.F.z.ok j a Br).k.imp Ad Ad).resolve_left si;have hn:=(I.F.z.ok j a Br).n;have sO:=tV I.F hn;have nd:=I.F.z.nd _ _ sO
   obtain⟨kb,LX,LG⟩:∃kb:Nat,(S.ov.getD a.n [])[kb]?=a_ b/\(a.seen=b_/\kb=0\/∃(s:Int) (k:Nat),a.seen=a_ s/\(S.ov.getD a.n [])[k]?=a_ s/\kb=k+1):=by
    cases es:a.seen with
    | none=>
     rw[es,Ox _ nd]at hb;exact⟨0,hb,.inl ⟨rfl,rfl⟩⟩
    | some s=>
     obtain⟨_,o,_,_,ho,wY⟩:=I.F.z.sn j a Br s es;rw[sO]at ho;cases ho;obtain⟨k,hk⟩:=List.getElem?_of_mem wY;rw[es,Gw nd hk]at hb;exact⟨k+1,hb,.inr ⟨s,k,rfl,hk,rfl⟩⟩
   obtain⟨jb,b',rfl,xq,L',_⟩:=(I.F.uG a.n _ sO b).mp (List.mem_of_getElem? LX);refine ai (I.at' Br) λpa fh mX=>ai (I.at' xq) λpb Bf wW=>⟨_,rfl,rfl,_,rfl,bQ (λz=>absurd (V.str.inj z) (show ¬("ahead" : Str) = "own" from dk)) λ_=>⟨_,rfl,rfl,_,rfl,bQ (λz=>absurd (V.str.inj z) (show ¬("ahead" : Str) = "seen" from dk)) λ_=>⟨_,rfl,_,rfl,rL (ae.of I.d) fh (rT (v:=.int (a.n:Nat)) (aB.of mX) rfl ⟨_,rfl,_,rfl,rL (ae.of I.d) Bf (rT (v:=.int (b'.n:Nat)) (aB.of wW) rfl ⟨rfl,_,rfl,?_⟩)⟩)⟩⟩⟩;rw[L'];refine lg (λz=>absurd rfl z) λ_=>⟨_,rfl,_,rfl,pl,_,rfl,dR.k (k:=a_ (jb:Int)) I.pl,_,rfl,?_⟩;rw[vS I LX];refine dJ ⟨_,rfl,rfl,_,rfl,bQ (λz=>absurd (V.str.inj z) (show ¬("ahead" : Str) = "over" from dk)) λ_=>?_⟩
   have fin:∀(σ5 σ6:Option V),R6 { nx:=λ_ H'=>Q .aH H',rt:=Q } [a_ (.int (j:Nat)),a_ (.int (jb:Nat)),a_ (.str "ahead"),a_ (.ref d),a_ (.ref pl),σ5,σ6,a_ (.int (kb:Nat))] H:=λσ5 σ6=>by
    refine⟨_,rfl,rfl,_,rfl,bQ (λ_=>?_) λz=>absurd rfl z⟩;refine⟨_,rfl,_,rfl,rL (ae.of I.d) fh (rT (v:=.str a.k) (aB.of mX) rfl ⟨rfl,_,rfl,bQ (λ_=>?_) λz=>absurd (by rw[hk]) z⟩)⟩;refine⟨_,rfl,_,rfl,pl,.int (kb:Nat),rfl,by rw[<-vS I LX];exact dR.k (k:=a_ (jb:Int)) I.pl,_,rfl,rfl,?_⟩;rw[decide_eq_true rfl];exact q _ (ah.refl _)
   refine⟨_,rfl,_,rfl,rL (ae.of I.d) fh (rT (v:=oV a.seen) (aB.of mX) rfl ?_)⟩;rcases LG with ⟨e1,rfl⟩ | ⟨s,k,e1,hks,rfl⟩
   ·rw[e1];exact⟨_,rfl,rfl,_,rfl,lg (λz=>absurd rfl z) λ_=>fin _ _⟩
   ·rw[e1];refine⟨_,rfl,rfl,_,rfl,lg (λ_=>?_) λz=>(by cases z)⟩;exact⟨_,rfl,_,rfl,pl,.int (k:Nat),rfl,by rw[<-vS I hks];exact dR.k (k:=a_ s) I.pl,_,_,rfl,rfl,fin _ _⟩
theorem RO:(["_law_deed","_law_why"]:List Str).Nodup:=dk
theorem aaa{Y:List T3}(Z:mw S)(h:RingM (iX S) Y):Y.length<=S.ac.length:=by
 have:=List.Nodup.length_le_of_subset (l₁:=Y.map (·.1)) (l₂:=(List.range S.ac.length).map λ(i:Nat)=>(i:Int)) h.nd λd hd=>by
  refine ai (List.mem_map.mp hd) λx hx e=>?_;have:=(GQ Z (h.sub x hx)).1;rw[<-e];exact List.mem_map.mpr ⟨x.1.toNat,List.mem_range.mpr li,li⟩
 rwa[List.length_map,List.length_map,List.length_range]at this
def So:Sp:=λvs H Q _=>∃(r d pl:e_) (ts:List V) (Y:List T3) (ws:List V) (kvs:List (Key×V)) (S:Mc),vs=[.ref r,.ref d,.ref pl]/\H r=a_ (.tup ts)/\Paired (mx H) ts Y/\RingM (iX S) Y/\t9 H d pl ws kvs S/\∀H',ah H H'->Q (.bl c_) H'
theorem Ss:bf ["_law_ring","_law_deeds","_law_places_here","_law_k"] zLg (aR KQ):=bz
theorem ae8(F:aU K "_law_ring_holds" "_law_ring_holds" KQ f fd)(yE:mg "isinstance" = b_)(Ks:mg "tuple" = b_)(cW:mg "len" = b_)(si:mg "set" = b_)(di:mg "range" = b_)
  (GP:ax P w K mg base ay 1 fP BC zLa QJ) (kP:x_ K (.ref fP)=c_) (bP:Binds K BC zLa []) (mP:mg "_law_pair_holds" = a_ (.ref fP)):ax P w K mg base ay 2 f fd zLg So:=by
 refine F.ok Ss λaL A _ s H vs Q E hr h=>?_
 ·obtain⟨r,d,pl,ts,Y,ws,kvs,S,e,dE,hY,rM,I,q⟩:=h;subst e
  refine let R1:TS:=_;let R2:TS:=_;let R3:TS:=_;⟨_,ar (bZ (PW.pt (pw_or (jW (gd (bw iV rfl yE je (ab (pv 0) (ab (oB (v:=.ty "tuple") rfl Ks pX rfl) af))))) (pw_or (bo Av (bw dP rfl cW q_ (ab (pv 0) af)) aq (a7 _)) (pw_or1 (bo vU (bw ZM rfl cW q_ (ab (pZ (ZL rfl) rfl si boot_set (ab (g6 (N:=["_law_deed","_law_why"]) (idx:=[]) rfl (cZ.of (by kernel_rfl)) (xQ (aP _) (aP _)) (rJ (pv 0)) (λ_ _ _ _=>kX rfl (dn (bb (i:=0) RO rfl (aF rfl) (.inr rfl)) (dn (bb (i:=1) RO rfl (aF rfl) (.inr rfl)) kQ))) (λ_ _ _ _=>gZ) λ_ _ _ _=>pv 0) af)) af)) (bw dP rfl cW q_ (ab (pv 0) af)) (a7 _)))))) (aG (bg nG)) cp)
   (pR R3 (ar (hV gr rfl (jh rfl di (ab (bw dP rfl cW q_ (ab (pv 0) af)) af)) (bb (i:=3) Ss.nd rfl (aF rfl)) (pR R1 (aG (bZ (jW (gd (cU GP hr rfl mP kP bP .nil aT (ab (aJ cq (aJ cq (pv 0) (aW QX (pv 3) (aq))) (aq)) (ab (aJ cq (aJ cq (pv 0) (pv 3)) (aq)) (ab (aJ cq (aJ cq (pv 0) (aW QX (pv 3) (aq))) (aq)) (ab (pv 1) (ab (pv 2) af)))))))) (aG (bg nG)) cp)))) (pR R2 (aG (bg nG))))),?_⟩
  have hsz:=eM;have hl:=r_ hY;have hn3:=I.n;have iB:=aaa I.F.z rM;have h2:=rM.two;have hT:=xN dE;refine vr rfl (dY _ _ _ _ (gL _ rfl (oS hT) rfl (oO hT qc) (aA _ rfl ?_)));rw[show yw "tuple" "tuple" = c_ by decide];refine dJ (vr rfl (dZ r ts rfl (.inr (aB.of dE)) ⟨_,_,rfl,rfl,_,rfl,bQ (λz=>absurd (show (ts.length:Int)<2 from z) li) λ_=>⟨_,rfl,r,rfl,⟨ts,aB.of dE⟩,eN (n:=ts.length) (λi ys H'=>H=H'/\ys=((Y.take i).map (·.1)).map V.int) (by rw[hsz];lia) ⟨rfl,rfl⟩ (λi ys H' z=>by rw[z.2,List.length_map,List.length_map,List.length_take];exact xG _ _) ?_ ?_ ?_ ?_⟩⟩))
  ·rintro i ys H' hi ⟨rfl,_⟩;exact eO _ _ (aB.of dE) (List.getElem?_eq_getElem hi)
  ·rintro ys H' ⟨rfl,_⟩;exact aA _ (aB.of dE) (aw _)
  ·rintro i ys H' hi ⟨rfl,rfl⟩ v iE ⟨eH,hv⟩;subst eH;refine ai (jg hY (hv _ (aB.of dE))) λx hx zq=>ai zq λp ep hp=>?_;subst ep;refine⟨p,_,rfl,aB.of hp,rfl,_,_,rfl,_,_,rfl,rfl,⟨_,rfl,rfl,?_⟩⟩;rw[List.take_add_one,hx,List.map_append,List.map_append];rfl
  rintro ys H' ⟨rfl,rfl⟩;rw[List.take_of_length_le li];refine⟨by rw[List.length_map,List.length_map,hsz];lia,λl1 n1=>aO (nw (o:=.lst ((Y.map (·.1)).map V.int)) n1) λH1 e1 s1 eB=>?_⟩;rw[e1];clear e1
  have lo:(qk (Y.map (·.1))).length=ts.length:=by
   have a:=aao (Y.map (·.1));have b:=List.Nodup.length_le_of_subset rM.nd λd hd=>aan.mpr hd;rw[List.length_map]at a b;lia
  refine⟨l1,_,rfl,ae.of eB,by rw[List.length_map];lia,λl2 n2=>⟨l2,_,rfl,ao,li,?_⟩⟩;have s2:=aE (o:=AH P w l2 (qk (Y.map (·.1)))) s1 n2;refine⟨_,rfl,r,ts,rfl,.inr (aB.of (s2 _ _ dE)),rfl,_,rfl,?_⟩;rw[lo];refine lg (λz=>absurd rfl z) λ_=>⟨_,rfl,r,ts,rfl,.inr (aB.of (s2 _ _ dE)),_,rfl,li,li,?_⟩;rw[show ((ts.length:Int)).toNat=ts.length by lia]
  let W1:IV:=λn σ H'=>∃z,σ=[a_ (.ref r),a_ (.ref d),a_ (.ref pl),z]/\ah H H'
  refine rB (n:=ts.length) W1 ⟨b_,rfl,s2⟩ ?_ ?_
  ·rintro k σ H3 hk ⟨z,rfl,s3⟩;rw[lQ];have I3:=I.same s3;have V6:=mx.all hY λb xs h=>s3 _ _ h;have uT:=s3 _ _ dE;have hy:Y[k]?=a_ (Y[k]' li):=List.getElem?_eq_getElem li;have hx:Y[if k=0 then Y.length-1 else k-1]?=a_ (Y[if k=0 then Y.length-1 else k-1]'(by split <;> lia)):=List.getElem?_eq_getElem (by split <;> lia);have sD:=rM.sD k _ _ hy hx;generalize Y[k]'_=y at hy sD;generalize Y[if k=0 then Y.length-1 else k-1]'_=x at hx sD;refine ai (pS V6 hy) λvy hvy zq=>ai zq λpy ep hpy=>?_;subst ep;refine ai (pS V6 hx) λvx ET zq=>ai zq λpx ep qM=>?_;subst ep
   have V4:eU ts ((k:Int)-1)=a_ (.ref px):=by
    by_cases z:k=0
    ·subst z;rw[if_pos rfl,<-hl]at ET
     have e:lz ts.length (((0:Nat):Int)-1)=a_ (ts.length-1):=by
      unfold lz;rw[if_neg li,if_pos li];exact congrArg a_ li
     unfold eU;rw[e];exact ET
    ·rw[if_neg z]at ET;rw[show (k:Int)-1=((k-1:Nat):Int) by lia];exact cX ET
   exact⟨_,rfl,_,rfl,_,_,rfl,rfl,rT (aB.of uT) V4 (rT (v:=.int x.1) (aB.of qM) rfl ⟨_,rfl,_,rfl,rT (aB.of uT) (cX hvy) (rT (v:=.int y.1) (aB.of hpy) rfl ⟨_,rfl,_,rfl,_,_,rfl,rfl,rT (aB.of uT) V4 (rT (v:=.str x.2.2) (aB.of qM) rfl ⟨_,rfl,_,rfl,⟨d,pl,ws,kvs,S,x,by rw[sD];rfl,I3,rM.sub _ (List.mem_of_getElem? hx),λH4 s4=>⟨_,rfl,dJ ⟨_,rfl,s3.trans s4⟩⟩⟩⟩)⟩)⟩)⟩
  ·rintro σ H3 ⟨z,rfl,s3⟩;exact q H3 s3
theorem ahc(us:List V)(i:Nat):ik us b_ (a_ (i:Int))=us.take i:=by
 unfold ik;rw[HT.CP,HT.O9,List.drop_zero,Nat.sub_zero]
 by_cases h:i<=us.length
 ·rw[nZ h]
 ·rw[Nat.min_eq_right li,List.take_of_length_le (aw _),List.take_of_length_le li]
theorem adP{PT m C dx:e_}{fs:List (Str×V)}(k:dI m H H')(hm:H m=a_ (.ins C dx fs))(h:cY PT LP LQ H):cY PT LP LQ H':=
 zR (F:=[m]) h (λb o n e=>k.k b o (λz=>n (by rw[z];exact List.mem_singleton.mpr rfl)) e) λb hb o e=>by rw[List.mem_singleton.mp hb,hm]at e;cases e;exact .inl ⟨_,_,_,rfl⟩
theorem acz(d:Nat):∃kd:Str,eU ([.str "row",.str "name"]:List V) ((d:Int)%2)=a_ (.str kd)/\(kd = "row"\/kd = "name"\/kd = "none"):=by
 have h:d%2=0\/d%2=1:=li;rw[show (d:Int)%2=((d%2:Nat):Int) by lia];rcases h with e | e <;> rw[e]
 ·exact aA ("row") (cX (j:=0) rfl) (.inl rfl)
 ·exact aA ("name") (cX (j:=1) rfl) (.inr (.inl rfl))
theorem YM(F:nT S)(x:T3)(hx:x∈iX S):x.1≠x.2.1:=by
 rcases(vp F.z).mp hx with ⟨i,j,c,rfl,sS,_⟩ | ⟨j,hj,hs⟩ | ⟨n,hn,ho⟩ | ⟨j,hj,ha⟩
 ·exact λe=>(by have:(i:Int)=(j:Int):=e;lia)
 ·refine cC (Cr hs) λa ha e1 e2 e3 e=>?_;rw[e2]at e;rw[e]at e1;obtain⟨_,o,_,_,ho,wY⟩:=F.z.sn j a ha _ e1;obtain⟨i,b,eb,hb,_,hl⟩:=(F.uG a.n o ho _).mp wY;have:i=j:=li;subst this;rw[ha]at hb;cases hb;have:=F.sn _ _ ha (((F.z.ok _ _ ha).k.imp Ad Ad).resolve_right hl);rw[e1]at this;cases this
 ·refine oA (vO.mp ho) λh1 _ e=>?_;obtain⟨k,uW,qQ⟩:=QB h1;rw[e]at uW;have nd:=F.z.nd _ _ (tV F hn);have:=vW nd uW qQ;lia
 ·unfold k8 at ha;refine ai (sZ.mp ha) λa Br e1=>?_;unfold qf at e1
  split at e1
  ·cases e1
  refine ai (sZ.mp e1) λb hb e2=>?_
  split at e2
  ·cases e2
  rename_i z
  cases e2;exact λe=>z e.symm
theorem ae4(F:nT S)(n:Nat):(S.ov.getD n []).length<=S.ac.length:=by
 by_cases h:n<12
 ·have sO:=tV F h
  have:=List.Nodup.length_le_of_subset (l₂:=(List.range S.ac.length).map λ(i:Nat)=>(i:Int)) (F.z.nd _ _ sO) λd hd=>by
   obtain⟨j,a,rfl,ha,_⟩:=(F.uG n _ sO d).mp hd;exact List.mem_map.mpr ⟨j,List.mem_range.mpr (List.getElem?_eq_some_iff.mp ha).1,rfl⟩
  rwa[List.length_map,List.length_range]at this
 ·have:=F.ov;rw[List.getD_eq_getElem?_getD,List.getElem?_eq_none (l:=S.ov) (i:=n) li];exact aP _
theorem adW(F:nT S):Uq S.ov:=by
 have hn:∀{m j:Nat} {d:Int},(S.ov.getD m [])[j]?=a_ d->S.ov[m]?=a_ (S.ov.getD m []):=λ{m j d} h=>by
  refine tV F (vh λz=>?_);have:=F.ov;rw[List.getD_eq_getElem?_getD,List.getElem?_eq_none (l:=S.ov) (i:=m) li]at h;cases h
 intro m j m' j' d h h';obtain⟨i,a,e,ha,Md,_⟩:=(F.uG m _ (hn h) d).mp (List.mem_of_getElem? h);obtain⟨i',a',e',sV,ah5,_⟩:=(F.uG m' _ (hn h') d).mp (List.mem_of_getElem? h');have:i=i':=li;subst this;rw[ha]at sV;cases sV;have:m=m':=by rw[<-Md,<-ah5]
 subst this;exact⟨rfl,vW (F.z.nd _ _ (hn h)) h h'⟩
theorem aa1{n:Nat}(h:Each n R):R.Perm (uf n):=by
 refine(List.perm_ext_iff_of_nodup h.nd (List.Pairwise.map _ (λa b z e=>z li) (List.nodup_range (n:=n)))).mpr λb=>?_;rw[h.mem,List.mem_map];exact⟨λz=>⟨b.toNat,List.mem_range.mpr li,li⟩,λz=>ai z λk hk e=>(by have:=List.mem_range.mp hk;lia)⟩
theorem abQ(n:Nat):((List.range n).map λ(i:Nat)=>V.int (i:Nat))=(uf n).map V.int:=by
 unfold uf;rw[List.map_map];rfl
theorem if_true{b:Bool}{A B:Prop}(h:b=c_)(a:A):if b=c_ then A else B:=by rw[if_pos h];exact a
theorem adx:(["_law_machine","_law_name"]:List Str).Nodup:=dk
section
variable{t:aZ}{C CT PT:e_}
def RD(K:u_)(PT:e_):Sp:=λvs H Q _=>∃(a:e_) (ns:List Int),vs=[.ref a]/\ae K H a (ns.map V.int)/\ns.length<=63/\cY PT LP LQ H/\∀H',Q (.bl c_) H'
theorem qi:bf ["_law_script","_law_kind","_law_many","_law_machine","_law_deeds","_law_over","_law_found"] zLs (aR v7):=bz
theorem adp(F:aU K "law" "law" v7 f fd)(cM:eP K C)(cW:mg "len" = b_)(di:mg "range" = b_)(wY:mg "sorted" = b_)(Bo:mg "list" = b_)(yE:mg "isinstance" = b_)(Ks:mg "tuple" = b_)
  (GD:ax P w K mg base ay 1 fD ky zLj C8) (kD:x_ K (.ref fD)=c_) (bD:Binds K ky zLj []) (mD:mg "_law_draw" = a_ (.ref fD))
  (GP:ax P w K mg base ay 2 fP BC zLs PR) (kP:x_ K (.ref fP)=c_) (bP:Binds K BC zLs []) (mP:mg "_law_program" = a_ (.ref fP))
  (mk:Mk K C fI) (GI:ax P w K mg base ay 7 fI jt zLo (PQ t C CT)) (agn:mg "Machine" = a_ (.ref C)) (b3:Binds K jt zLo [])
  (GRu:ax P w K mg base ay 9 Wo aih zLi (RC t C CT PT)) (kRu:x_ K (.ref Wo)=c_) (bRu:Binds K aih zLi []) (mRu:mg "_law_run" = a_ (.ref Wo))
  (GDe:ax P w K mg base ay 1 fDe ail zLf (Af t C CT)) (bDe:Binds K ail zLf []) (mDe:Meth K C "deeds" fDe)
  (GO:ax P w K mg base ay 1 fO lD zLc (C5 t C CT)) (bO:Binds K lD zLc []) (mO:Meth K C "over" fO)
  (GOr:ax P w K mg base ay 5 Wr aij zLb (PM t C CT)) (kOr:x_ K (.ref Wr)=c_) (bOr:Binds K aij zLb []) (mOr:mg "order" = a_ (.ref Wr))
  (GPl:ax P w K mg base ay 1 Wq aii ["_law_over"] OU) (kPl:x_ K (.ref Wq)=c_) (bPl:Binds K aii ["_law_over"] []) (mPl:mg "_law_places" = a_ (.ref Wq))
  (GR:ax P w K mg base ay 2 fR BB zLg So) (kR:x_ K (.ref fR)=c_) (bR:Binds K BB zLg []) (mR:mg "_law_ring_holds" = a_ (.ref fR))
  (GH:ax P w K mg base ay 1 fH Mr zLk PU) (kH:x_ K (.ref fH)=c_) (bH:Binds K Mr zLk []) (mH:mg "_law_row_holds" = a_ (.ref fH)) :
  ax P w K mg base ay 10 f fd zLs (RD K PT):=by
 refine F.ok qi λaL A _ s H vs Q E hr h=>?_
 ·obtain⟨a,ns,aa,hS,hlen,lam,q⟩:=h;subst aa;have hu:=Ae hr;have fX:=hr.mono (show 1<=9 by decide);have iC:=hr.mono (show 2<=9 by decide);have LH:=hr.mono (show 5<=9 by decide);have E2:=hr.mono (show 8<=9 by decide)
  refine let R1:TS:=_;let R2:TS:=_;let R3:TS:=_;let R4:TS:=_;let R5:TS:=_;let R6:TS:=_;let R7:TS:=_;let R8:TS:=_;let R9:TS:=_;let fu:TS:=_;let nY:TS:=_;let xx:TS:=_;let BN:TS:=_;let Mw:TS:=_;⟨_,ar (bp (i:=0) qi.nd rfl (aF rfl) (x8 CM (pv 0) Aj (vC aq))) (pR Mw (ar (bp (i:=1) qi.nd rfl (aF rfl) (aJ cD (dy (ab (cJ) (ab (cJ) af))) (aW gK (cU GD fX rfl mD kD bD .nil aT (ab (pv 0) (ab (aq) af))) (aq)))) (pR BN (ar (bp (i:=2) qi.nd rfl (aF rfl) (aW fJ (aq) (aW gK (aW lX (cU GD fX rfl mD kD bD .nil aT (ab (pv 0) (ab (aq) af))) (aq)) (aq)))) (pR xx (ar (bZ (bo cH (aW gK (cU GD fX rfl mD kD bD .nil aT (ab (pv 0) (ab (aq) af))) (aq)) aq (a7 _)) (pR R2 (ar (bp (i:=2) qi.nd rfl (aF rfl) (aW fJ (aq) (aW gK (aW lX (cU GD fX rfl mD kD bD .nil aT (ab (pv 0) (ab (aq) af))) (aq)) (aq)))) (pR R1 (aG (bp (i:=1) qi.nd rfl (aF rfl) (cJ)))))) cp) (pR nY (ar (bp (i:=3) qi.nd rfl (tT rfl) (Ak mk GI E2 rfl agn b3 .nil aT (ab (cU GP iC rfl mP kP bP .nil aT (ab (pv 0) af)) (ab (pv 1) af)))) (pR fu (ar (dq (cU GRu hr rfl mRu kRu bRu .nil aT (ab (pv 0) (ab (pv 3) (ab (pv 2) af))))) (pR R9 (ar (bp (i:=4) qi.nd rfl (aF rfl) (jT (pv 3) cM.cl mDe GDe fX bDe .nil aT)) (pR R8 (ar (tE (i:=5) (N:=["_law_machine","_law_name"]) (idx:=[3]) qi.nd rfl rfl rfl (cZ.of (by kernel_rfl)) (gF (aw _)) (jh rfl di (ab (aq) af)) (λ_ _ _ _=>bb (i:=1) adx rfl (aF rfl) (.inr rfl)) (λ_ _ _ _=>gZ) λ_ _ _ _=>iW (pv 0) cM.cl mO GO fX bO .nil aT (ab (pv 1) af))
   (pR R7 (ar (bp (i:=6) qi.nd rfl (aF rfl) (cU GOr LH rfl mOr kOr bOr .nil aT (ab (pv 3) af))) (pR R6 (ar (bZ (PW.pt (pw_or (jW (gd (bw iV rfl yE je (ab (pv 6) (ab (oB (v:=.ty "tuple") rfl Ks pX rfl) af))))) (pw_or1 (bo vU (bw dP rfl cW q_ (ab (pv 6) af)) aq (a7 _))))) (aG (bg nG)) cp) (pR R5 (ar (bZ (bo cH (aJ cq (pv 6) (aq)) cJ (a7 _)) (pR R3 (aG (bg (rK (kU (QZ hu) (bw X4 rfl wY boot_sorted (ab (aJ cq (pv 6) (aq)) af)) (aah rfl rfl Bo rfl di (ab (bw dP rfl cW q_ (ab (pv 4) af)) af)) (a7 _)) (tP (cU GH fX rfl mH kH bH .nil aT (ab (aJ cq (pv 6) (aq)) (ab (pv 4) (ab (pv 5) af))))))))) cp) (pR R4 (aG (bg (rK (kU cH (aJ cq (pv 6) (aq)) cJ (a7 _)) (tP (cU GR iC rfl mR kR bR .nil aT (ab (aJ cq (pv 6) (aq)) (ab (pv 4) (ab (cU GPl fX rfl mPl kPl bPl .nil aT (ab (pv 5) af)) af))))))))))))))))))))))))))))),?_⟩
  have hsz:=eM;refine vr rfl (aA _ rfl ⟨a,⟨_,rfl,hS,λls nls=>?_⟩⟩);rw[show ((63:Int))=((63:Nat):Int) from rfl,ahc,<-List.map_take];have qO:(ns.take 63).length<=63:=by rw[List.length_take];exact xG _ _
  generalize ns.take 63=ms at qO ⊢;refine aO (nw (o:=.lst (ms.map V.int)) nls) λH1 e1 s1 yD=>?_;rw[e1];clear e1
  have T:∀(kd:Str) (many:Nat) H2,(kd = "row"\/kd = "name"\/kd = "none")->many<=2500->ah H1 H2->nY { nx:=λ_ H'=>Q .aH H',rt:=Q } [a_ (.ref ls),a_ (.str kd),a_ (.int (many:Nat)),b_,b_,b_,b_] H2:=λkd many H2 m8 VM s2=>by
   refine vr rfl (⟨ls,ms,rfl,(s2 _ _ yD),qO,(λH3 v ps s3 hP hg hL=>vr rfl λm dx nm jL ne=>?_)⟩);have nm2:upd H3 dx (.own m) m=none:=by rw[ag ne.symm];exact nm
   have sa:=aE (o:=.ins C dx []) (aE (o:=.own m) (ah.refl H3) jL) nm2;have hm:upd (upd H3 dx (.own m)) m (.ins C dx []) m=a_ (.ins C dx []):=ao;generalize upd (upd H3 dx (.own m)) m (.ins C dx [])=Hb at sa hm ⊢;have UK:=s2.trans s3;have D1:=UK _ _ yD;refine⟨m,dx,v,ps,kd,rfl,hm,(hP.keep λb xs e=>sa _ _ e),hg,m8,(λH4 A lab M L ev k4 fr=>⟨rfl,?_⟩)⟩;subst ev
   have nI:¬cF m A ls:=λz=>by
    rcases fr ls z with e | e
    ·rw[e,nm]at D1;cases D1
    ·rw[sa _ _ D1]at e;cases e
   have I0:LI t C CT PT H4 ls ms m A (yv kd ps) 0:=⟨M,adw hg,dh.new,Lp.new hL,adP k4 hm (oh lam ((s1.trans UK).trans sa)),k4.lst hm (sa _ _ D1)⟩;refine⟨_,rfl,_,rfl,_,rfl,ls,ms,m,A,_,lab,many,rfl,VM,I0,qO,L,nI,λH6 S6 h6 dN hc W6 M6 k6=>?_⟩;have e0:=ad1 M6.DF hc;have F6:=h6.ful e0 W6.ov;have wQ:=YM F6;refine bX (id M6.obj) λdx6 Wl xh G6=>vM rfl xh (G6.ms _ dk) ⟨m,A,S6,rfl,M6,λld wd nd hpd=>aO (nw (o:=.lst wd) nd) λH7 e7 s7 hd7=>?_⟩;rw[e7];clear e7;refine⟨_,rfl,qc,qc,eN (n:=12) (λi ys H'=>i<=12/\ah H7 H'/\∃os:List e_,ys=os.map V.ref/\os.length=i/\∀(n:Nat) p,os[n]?=a_ p->H' p=a_ (.lst ((S6.ov.getD n []).map V.int))) (sl (n:=12)) ⟨aP _,ah.refl _,[],rfl,rfl,λn p z=>by cases z⟩ ?_ ?_ ?_ ?_ ?_⟩
   ·rintro i ys H' ⟨_,_,os,e1,e2,_⟩;rw[e1,List.length_map,e2];exact aw _
   ·rintro i ys H' hi _;exact hi
   ·rintro ys H' _;exact aw _
   ·rintro i ys H' hi ⟨_,s8,os,e1,e2,sN⟩ x H2 ⟨eH,ex⟩;subst eH;subst ex;have eW:=tV F6 hi;dsimp only[mf,jj];rw[if_pos rfl];refine(vM rfl (s8 _ _ (s7 _ _ xh)) (G6.ms _ dk) (vr rfl ⟨m,A,S6,i,_,by rw[lQ];rfl,(M6.same s7).same s8,eW,λl nl=>⟨hi,aE s8 nl,os++[l],by rw[e1,List.map_append];rfl,by rw[List.length_append,e2];rfl,λn p hp=>?_⟩⟩))
    by_cases hn:n<os.length
    ·rw[List.getElem?_append_left hn]at hp;have h1:=sN n p hp;rw[ag (cG h1 nl)];exact h1
    ·have Bj:n=os.length:=by
      have:=(List.getElem?_eq_some_iff.mp hp).1;rw[List.length_append,List.length_singleton]at this;lia
     subst Bj;rw[List.getElem?_append_right (aw _),oa]at hp;cases hp;rw[e2];exact ao
   ·rintro ys H8 ⟨_,s8,os,e1,e2,sN⟩;subst e1;refine⟨by rw[List.length_map,e2];exact sl,λlo sJ=>aO (nw (o:=.lst (os.map V.ref)) sJ) λH9 e9 s9 ho9=>?_⟩;rw[e9];clear e9;have UI:=s8.trans s9;have UJ:=s7.trans UI;refine vr rfl ⟨m,A,S6,rfl,M6.same UJ,W6,li,λi k h=>e0 k (List.mem_of_getElem? h),F6.z,wQ,λBP p x v R mQ wm hK hor=>?_⟩;have ahj:=UJ.trans mQ;have fh:Paired (ig BP) wd S6.ac:=Paired.b9 hpd λ_ _ q=>q.keep λb xs e=>ahj _ _ e;have KA:=UI.trans mQ _ _ hd7;have Ts:=mQ _ _ ho9;have Sf:=λn p hp=>mQ _ _ (s9 _ _ (sN n p hp));have hT:=xN wm;refine vr rfl (dY _ _ _ _ (gL _ rfl (oS hT) rfl (oO hT qc) (aA _ rfl ?_)));rw[show yw "tuple" "tuple" = c_ by decide];refine dJ (vr rfl (dZ p _ rfl (.inr (aB.of wm)) ⟨rfl,_,rfl,lg (λz=>absurd rfl z) λ_=>⟨_,rfl,rT (v:=.str x) (aB.of wm) rfl ⟨rfl,_,rfl,?_⟩⟩⟩));rcases hor with ⟨rfl,hl,l,rfl,TC⟩ | ⟨rfl,d,ts,Y,rfl,hd,hY,hR⟩
    ·have eR:=hK.each hl;refine bQ (λ_=>?_) λz=>absurd rfl z;refine⟨_,rfl,rT (v:=.ref l) (aB.of wm) rfl ⟨l,R,rfl,ae.of TC,by rw[hsz];lia,eR.nd,λl2 zs nl2 hp hs=>aO (nw (o:=.lst (zs.map V.int)) nl2) λWJ ve mJ Bz=>?_⟩⟩;rw[ve];clear ve;refine⟨_,rfl,ld,wd,rfl,.inl (ae.of (mJ _ _ KA)),S6.ac.length,by rw[r_ fh],li,λl3 nl3=>?_⟩;rw[abQ];refine aO (nw (o:=.lst ((uf S6.ac.length).map V.int)) nl3) λMz BJ jK h13=>?_;rw[BJ];clear BJ;refine⟨_,_,Pr (ae.of (jK _ _ Bz)),Pr (ae.of h13),B1 _,B1 _,noMix_ints _ _,?_⟩;rw[if_neg dO,same_ints];have yt:=mJ.trans jK;refine⟨_,rfl,if_true ((abR hp hs).mpr (aa1 eR)) ⟨_,rfl,rT (v:=.ref l) (aB.of (yt _ _ wm)) rfl ⟨_,rfl,_,rfl,l,ld,lo,R,wd,S6.ac,os,S6.ov,rfl,yt _ _ TC,li,λi hi=>(eR.mem i).mp hi,λa ha=>(h6.ok a ha).k.imp Ad Ad,yt _ _ KA,Paired.b9 fh λ_ _ q=>q.keep λb xs e=>yt _ _ e,yt _ _ Ts,e2,λn p hp=>yt _ _ (Sf n p hp),λxA k _ hk=>?_⟩⟩⟩;rw[hk.mpr (Y5 F6 hK hl)];exact q xA
    ·refine bQ (λz=>absurd (V.str.inj z) dk) λ_=>⟨_,rfl,rT (v:=.str "ring") (aB.of wm) rfl ⟨rfl,_,rfl,bQ (λ_=>?_) λz=>absurd rfl z⟩⟩;exact⟨_,rfl,rT (v:=.ref d) (aB.of wm) rfl ⟨_,rfl,_,rfl,lo,os,S6.ov,rfl,Ts,e2,Sf,λn=>cx (ae4 F6 n) li,adW F6,λBO pl kvs iP eL hPD=>⟨d,ld,pl,ts,Y,wd,kvs,S6,rfl,iP _ _ hd,mx.all hY λb xs h=>iP _ _ h,hR,⟨iP _ _ KA,Paired.b9 fh λ_ _ q=>q.keep λb xs e=>iP _ _ e,li,eL,hPD,F6⟩,λxA _=>q xA⟩⟩⟩
  refine⟨qc,λlk nlk=>aO (nw (o:=.lst [.str "row",.str "name"]) nlk) λH2 e2 s2 hlk=>?_⟩;rw[e2];clear e2;refine vr rfl (jU ls ms 1 rfl (s2 _ _ yD) qO qc λH3 d3 s3=>ai (acz d3) λkd hka m8=>⟨_,⟨_,rfl,rfl,(show (0:Int)<2 by decide),lk,_,_,.str kd,rfl,rfl,ae.of (s3 _ _ hlk),hka,?_⟩⟩);have jK:=s2.trans s3;refine vr rfl (jU ls ms 2 rfl (jK _ _ yD) qO qc λH4 d4 s4=>⟨_,_,rfl,rfl,⟨qc,qc⟩,_,_,rfl,rfl,(show (0:Int)<251 by decide),_,_,rfl,rfl,?_⟩);have i9:=jK.trans s4;refine vr rfl (jU ls ms 2 rfl (i9 _ _ yD) qO qc λH5 d5 s5=>⟨_,_,rfl,rfl,(show (0:Int)<16 by decide),rfl,_,rfl,bQ (λ_=>?_) λ_=>?_⟩)
  ·have qH:=i9.trans s5;exact vr rfl (jU ls ms 2 rfl (qH _ _ yD) qO qc λH6 d6 s6=>⟨_,_,rfl,rfl,⟨qc,qc⟩,_,_,rfl,rfl,(show (0:Int)<701 by decide),_,_,rfl,rfl,T "row" (1500+d6/16%701) H6 (.inl rfl) li (qH.trans s6)⟩)
  ·exact T kd (150+d4/16%251) H5 m8 li (i9.trans s5)
end
end TL
namespace TL
open PySem.SeqAt L2 L3
theorem RW{us:List f_}(h:us.length=1):∃a,us=[a]:=List.length_eq_one_iff.mp h
theorem DK{us:List f_}{n:Nat}(h:us.length=n+1):∃a l,us=a::l/\l.length=n:=by
 cases us with
 | nil=>cases h
 | cons a l=>exact⟨a,l,rfl,Nz h⟩
theorem RV{us:List f_}(h:us.length=2):∃a b,us=[a,b]:=bX (DK h) λa _ e h=>oE (RW h) λb z=>⟨a,b,by rw[e,z]⟩
theorem RU{us:List f_}(h:us.length=3):∃a b c,us=[a,b,c]:=bX (DK h) λa _ e h=>yK (RV h) λb c z=>⟨a,b,c,by rw[e,z]⟩
theorem RT{us:List f_}(h:us.length=4):∃a b c d,us=[a,b,c,d]:=bX (DK h) λa _ e h=>ag0 (RU h) λb c d z=>⟨a,b,c,d,by rw[e,z]⟩
theorem afo{us:List f_}(h:us.length=5):∃a b c d e,us=[a,b,c,d,e]:=bX (DK h) λa _ e h=>afa (RT h) λb c d f z=>⟨a,b,c,d,f,by rw[e,z]⟩
abbrev uI(x q:Str)(st:Stmt)(ps:List Str):Prop:=∀(kV doc pm:f_) (an:Option e_) (aL ct:f_) (us:List f_),us.length=ps.length->rE (B_ x q (jz st) (iG st) (aR st) .none kV doc pm an aL ct) ⟨us,[]⟩=pure (ps.zip us)
section
variable{K:u_}{h:j_}{mg:Str->Option f_}{x q m:Str}{st:Stmt}{f c e:e_}
theorem dS(X:K.In h)(G:h.Ns dW mg)(p:fN K x)(l:HT.bj K (gN K x)=fp x x st)(ps:List Str)(hb:uI x x st ps):∃fd,aU K x x st (gN K x) fd/\x_ K (.ref (gN K x))=c_/\Binds K fd ps []/\mg x=a_ (.ref (gN K x)):=by
 obtain⟨oc,od,kV,dc,pm,an,cd,ct,sl,l1,c1⟩:=HT.vZ l p.2.1;have F:=Rl (st:=st) l1 c1 p.2.2;exact⟨_,F,p.2.2,F.binds hb,C_ X G (HT.qj p.1)⟩
theorem eQ(p:fM K c m q)(l:HT.bj K (gM K c m)=fp m q st)(ps:List Str)(hb:uI m q st ps):∃fd,aU K m q st (gM K c m) fd/\Binds K fd ps []/\Meth K c m (gM K c m):=by
 obtain⟨oc,od,kV,dc,pm,an,cd,ct,sl,l1,c1⟩:=HT.vZ l p.2.1;have F:=Rl (st:=st) l1 c1 p.2.2.1;exact⟨_,F,F.binds hb,HT.qj p.1,p.2.2.2,p.2.2.1⟩
theorem ag4(p:fM K c m q)(l:HT.bj K (gM K c m)=fp m q st)(ci:HT.DO K (gM K c m)=c_)(ps:List Str)(hb:uI m q st ps):∃fd,uw K m q st (gM K c m) fd (HT.yx K (gM K c m))/\Binds K fd ps []/\Meth K c m (gM K c m):=by
 obtain⟨oc,od,kV,dc,pm,an,ct,sl,l1,c1⟩:=HT.ad0 l p.2.1 ci;have F:=acB (st:=st) l1 c1 p.2.2.1;exact⟨_,F,F.fun.binds hb,HT.qj p.1,p.2.2.2,p.2.2.1⟩
theorem mkD{d:Str}(p:fM K c m q)(l:HT.DL K (gM K c m)=fp m q st)(df:HT.DN K (gM K c m) d=c_):∃fd,AN K m q st (gM K c m) fd d:=by
 obtain⟨oc,od,T,kV,dc,pm,an,cd,ct,sl,c1,d1,n1,sH,tk,e1,e2,e3⟩:=HT.adZ l p.2.1 df;exact⟨_,⟨⟨oc,od,T,kV,dc,pm,an,cd,ct,sl,c1,d1,n1,sH,tk,rfl,e1,e2,e3⟩,p.2.2.1⟩⟩
theorem sq(X:K.In h)(G:h.Ns dW mg)(p:cK K x):fq K (gN K x)/\mg x=a_ (.ref (gN K x)):=⟨⟨p.2.1,p.2.2.1,p.2.2.2.1,p.2.2.2.2⟩,C_ X G (HT.qj p.1)⟩
end
def Ru(l:W.OpenLaw)(w:k_)(K:u_)(mg:Str->Option f_)(fa:e_):Prop:=
  ∃fd:lW,(∀(s:g_) (v:f_),BindsTo s fd ⟨[v],[]⟩ [("_law_script",v)])/\(∃c,W.codeHdIn K c 499=c_)/\∀base:j_,K.In base->base.Ns dW mg->se mg base->ax l.prog w K mg base ay 10 fa fd zLs (RD K 499)
theorem sL9{K:u_}(E:seen K=c_)(i:Nat){b:Bool}(h:(yJ K ())[i]?=a_ b):b=true:=List.all_eq_true.mp E b (List.mem_of_getElem? h)
section
variable{K:u_}(E:seen K=c_)
theorem av{K:u_}(E:seen K=c_)(i:Nat){p:Prop}{d:Decidable p}(h:(yJ K ())[i]?=a_ (@decide p d)):p:=@of_decide_eq_true p d (sL9 E i h)
def OF:=av E 2 rfl
def N4:=av E 7 rfl
def N2:=av E 12 rfl
def N1:=av E 20 rfl
def Nj:=av E 25 rfl
def Rn:=av E 40 rfl
def HC:=av E 41 rfl
def Gz:=av E 42 rfl
def Gy:=av E 43 rfl
def vG:=av E 44 rfl
def Io:=av E 48 rfl
def Qo:=av E 53 rfl
def HD:=av E 58 rfl
end
theorem bx{K:u_}(E:oK K=nH)(i:Nat){a b:Option HT.oZ}(h:(oK K)[i]?=a_ a)(g:nH[i]?=a_ b):a=b:=by rw[E,g]at h;exact(cu h).symm
theorem eE{x q:Str}{st:Stmt}{ps:List Str}(l:ps.length=1:=by rfl)(h:∀(kV doc pm:f_) (an:Option e_) (aL ct:f_) (u0:f_),rE (B_ x q (jz st) (iG st) (aR st) .none kV doc pm an aL ct) ⟨[u0],[]⟩=pure (ps.zip [u0]):=by intros;rfl):uI x q st ps:=by
 intro k1 k2 k3 k4 k5 k6 us hl;obtain⟨u0,e⟩:=RW (hl.trans l);subst e;exact h k1 k2 k3 k4 k5 k6 u0
theorem iu{x q:Str}{st:Stmt}{ps:List Str}(l:ps.length=2:=by rfl)(h:∀(kV doc pm:f_) (an:Option e_) (aL ct:f_) (u0 u1:f_),rE (B_ x q (jz st) (iG st) (aR st) .none kV doc pm an aL ct) ⟨[u0,u1],[]⟩=pure (ps.zip [u0,u1]):=by intros;rfl):uI x q st ps:=by
 intro k1 k2 k3 k4 k5 k6 us hl;obtain⟨u0,u1,e⟩:=RV (hl.trans l);subst e;exact h k1 k2 k3 k4 k5 k6 u0 u1
theorem uJ{x q:Str}{st:Stmt}{ps:List Str}(l:ps.length=3:=by rfl)(h:∀(kV doc pm:f_) (an:Option e_) (aL ct:f_) (u0 u1 u2:f_),rE (B_ x q (jz st) (iG st) (aR st) .none kV doc pm an aL ct) ⟨[u0,u1,u2],[]⟩=pure (ps.zip [u0,u1,u2]):=by intros;rfl):uI x q st ps:=by
 intro k1 k2 k3 k4 k5 k6 us hl;obtain⟨u0,u1,u2,e⟩:=RU (hl.trans l);subst e;exact h k1 k2 k3 k4 k5 k6 u0 u1 u2
theorem bn4{x q:Str}{st:Stmt}{ps:List Str}(l:ps.length=4:=by rfl)(h:∀(kV doc pm:f_) (an:Option e_) (aL ct:f_) (u0 u1 u2 u3:f_),rE (B_ x q (jz st) (iG st) (aR st) .none kV doc pm an aL ct) ⟨[u0,u1,u2,u3],[]⟩=pure (ps.zip [u0,u1,u2,u3]):=by intros;rfl):uI x q st ps:=by
 intro k1 k2 k3 k4 k5 k6 us hl;obtain⟨u0,u1,u2,u3,e⟩:=RT (hl.trans l);subst e;exact h k1 k2 k3 k4 k5 k6 u0 u1 u2 u3
theorem bn5{x q:Str}{st:Stmt}{ps:List Str}(l:ps.length=5:=by rfl)(h:∀(kV doc pm:f_) (an:Option e_) (aL ct:f_) (u0 u1 u2 u3 u4:f_),rE (B_ x q (jz st) (iG st) (aR st) .none kV doc pm an aL ct) ⟨[u0,u1,u2,u3,u4],[]⟩=pure (ps.zip [u0,u1,u2,u3,u4]):=by intros;rfl):uI x q st ps:=by
 intro k1 k2 k3 k4 k5 k6 us hl;obtain⟨u0,u1,u2,u3,u4,e⟩:=afo (hl.trans l);subst e;exact h k1 k2 k3 k4 k5 k6 u0 u1 u2 u3 u4
theorem facts{l:W.OpenLaw}{w:k_}{K:u_}{h:j_}{mg:Str->Option f_}{fa:e_}(E:(seen K,oK K)=(c_,nH))(X:K.In h)(G:h.Ns dW mg)(hfa:mg "law" = a_ (.ref fa)):Ru l w K mg fa:=by
 have hb:=(vn E).1;have hl:=(vn E).2;refine cC (dS X G (av hb 36 rfl) (bx hl 0 rfl rfl) ["thing"] eE) λnR FW kW bW gW=>?_;refine cC (dS X G (av hb 37 rfl) (bx hl 1 rfl rfl) ["word"] eE) λmz FB kB bB gB=>?_;refine cC (dS X G (av hb 38 rfl) (bx hl 2 rfl rfl) ["told"] eE) λkj FS kS bS gS=>?_;refine cC (dS X G (av hb 39 rfl) (bx hl 3 rfl rfl) ["told"] eE) λlD FO kO bO gO=>?_;refine aO (eQ (Rn hb) (bx hl 4 rfl rfl) zLe iu) λjt FI bI MI=>?_;refine aO (eQ (HC hb) (bx hl 5 rfl rfl) zLe iu) λDy aiD KH TN=>?_;refine aO (eQ (Gz hb) (bx hl 6 rfl rfl) zLe iu) λDn agE JY Sk=>?_;refine aO (eQ (Gy hb) (bx hl 7 rfl rfl) zLe iu) λDm agD JX Sj=>?_;refine aO (eQ (vG hb) (bx hl 8 rfl rfl) zLf eE) λDM FEm K1 MEm=>?_;refine cC (dS X G (av hb 45 rfl) (bx hl 9 rfl rfl) zLu eE) λajF FHC kHC bHC gHC=>?_;refine cC (dS X G (av hb 46 rfl) (bx hl 10 rfl rfl) zLq uJ) λajG FFI kFI bFI gFI=>?_;refine cC (dS X G (av hb 47 rfl) (bx hl 11 rfl rfl) zLu eE) λajD FLO kLO bLO gLO=>?_;refine aO (eQ (Io hb) (bx hl 12 rfl rfl) ["self","kind"] iu) λajm FTI bTI MTI=>?_;refine aO (eQ (av hb 49 rfl) (bx hl 13 rfl rfl) zLl bn4) λajq FTA bTA MTA=>?_;refine aO (eQ (av hb 50 rfl) (bx hl 14 rfl rfl) zLc iu) λajl FTL bTL MTL=>?_;refine aO (ag4 (av hb 51 rfl) (bx hl 15 rfl rfl) (av hb 52 rfl) zLf eE) λajn WQ Wy MTF=>?_;refine aO (eQ (av hb 54 rfl) (bx hl 16 rfl rfl) zLc iu) λajj FTT bTT MTT=>?_;refine aO (eQ (av hb 55 rfl) (bx hl 17 rfl rfl) zLf eE) λajo FTE bTE MTE=>?_;refine aO (eQ (av hb 56 rfl) (bx hl 18 rfl rfl) zLf eE) λajp FTD bTD MTD=>?_;refine cC (dS X G (av hb 57 rfl) (bx hl 19 rfl rfl) ["kind"] eE) λajk FTO kTO bTO gTO=>?_;refine oE (mkD (HD hb) (bx hl 20 rfl rfl) (av hb 59 rfl)) λaiU TQ=>?_;refine aO (eQ (av hb 60 rfl) (bx hl 21 rfl rfl) zLd iu) λajX FAE bAE MAE=>?_;refine aO (eQ (av hb 61 rfl) (bx hl 22 rfl rfl) zLd iu) λajB FMY bMY MMY=>?_;refine aO (eQ (av hb 62 rfl) (bx hl 23 rfl rfl) zLf eE) λajO FCR WD MCR=>?_;refine aO (eQ (av hb 63 rfl) (bx hl 24 rfl rfl) zLf eE) λajC FMV WA MMV=>?_;refine aO (eQ (av hb 64 rfl) (bx hl 25 rfl rfl) zLt iu) λajJ FDO WB MDO=>?_;refine aO (eQ (av hb 65 rfl) (bx hl 26 rfl rfl) zLd iu) λajI FDS bDS MDS=>?_;refine aO (eQ (av hb 66 rfl) (bx hl 27 rfl rfl) zLh uJ) λajH FDT bDT MDT=>?_;refine aO (eQ (av hb 67 rfl) (bx hl 28 rfl rfl) zLh uJ) λajL FDL bDL MDL=>?_;refine aO (eQ (av hb 68 rfl) (bx hl 29 rfl rfl) zLm uJ) λajN FCY WC MCY=>?_;refine aO (eQ (av hb 69 rfl) (bx hl 30 rfl rfl) ["self","setting"] iu) λajQ FCM bCM MCM=>?_;refine aO (eQ (av hb 70 rfl) (bx hl 31 rfl rfl) zLc iu) λajz FOB bOB MOB=>?_;refine aO (eQ (av hb 71 rfl) (bx hl 32 rfl rfl) zLf eE) λajs FSE bSE MSE=>?_;refine aO (eQ (av hb 72 rfl) (bx hl 33 rfl rfl) zLd iu) λaji FWT bWT MWT=>?_;refine aO (eQ (av hb 73 rfl) (bx hl 34 rfl rfl) zLf eE) λajM FDE Fj MDE=>?_;refine aO (eQ (av hb 74 rfl) (bx hl 35 rfl rfl) zLc iu) λajx FOV Mu MOV=>?_;refine aO (eQ (av hb 75 rfl) (bx hl 36 rfl rfl) zLf eE) λajK FDN bDN MDN=>?_;refine cC (dS X G (av hb 76 rfl) (bx hl 37 rfl rfl) zLp uJ) λajv FPB kPB bPB gPB=>?_;refine cC (dS X G (av hb 77 rfl) (bx hl 38 rfl rfl) ["move"] eE) λajE FHF kHF bHF gHF=>?_;refine cC (dS X G (av hb 78 rfl) (bx hl 39 rfl rfl) ["part"] eE) λajr FSO kSO bSO gSO=>?_;refine cC (dS X G (av hb 79 rfl) (bx hl 40 rfl rfl) zLr iu) λajA MC kNB Wz Wj=>?_;refine cC (dS X G (av hb 80 rfl) (bx hl 41 rfl rfl) zLb eE) λajR FBW kBW bBW gBW=>?_;refine cC (dS X G (av hb 81 rfl) (bx hl 42 rfl rfl) zLb eE) λajT FBS kBS bBS gBS=>?_;refine cC (dS X G (av hb 82 rfl) (bx hl 43 rfl rfl) zLb eE) λajS FBV kBV bBV gBV=>?_;refine cC (dS X G (av hb 83 rfl) (bx hl 44 rfl rfl) zLb eE) λajV WR kBB bBB gBB=>?_;refine cC (dS X G (av hb 84 rfl) (bx hl 45 rfl rfl) zLb eE) λajW FBA kBA bBA gBA=>?_;refine cC (dS X G (av hb 85 rfl) (bx hl 46 rfl rfl) zLb eE) λaju FRF kRF bRF gRF=>?_;refine cC (dS X G (av hb 86 rfl) (bx hl 47 rfl rfl) zLb eE) λajU FBF kBF bBF gBF=>?_;refine cC (dS X G (av hb 87 rfl) (bx hl 48 rfl rfl) zLn iu) λajw FPA kPA bPA gPA=>?_;refine cC (dS X G (av hb 88 rfl) (bx hl 49 rfl rfl) zLn iu) λajt FRO kRO bRO gRO=>?_;refine cC (dS X G (av hb 89 rfl) (bx hl 50 rfl rfl) ["many","befores"] iu) λajP FCO kCO bCO gCO=>?_;refine cC (dS X G (av hb 90 rfl) (bx hl 51 rfl rfl) zLb eE) λajy FOD kOD bOD gOD=>?_;refine cC (dS X G (av hb 91 rfl) (bx hl 52 rfl rfl) zLj iu) λai1 aiK Kp KO KG=>?_;refine cC (dS X G (av hb 92 rfl) (bx hl 53 rfl rfl) zLs eE) λaiX aiG ahs air aic=>?_;refine cC (dS X G (av hb 93 rfl) (bx hl 54 rfl rfl) zLi uJ) λaiV aiE ahq aip aia=>?_;refine cC (dS X G (av hb 94 rfl) (bx hl 55 rfl rfl) zLk uJ) λai0 aiJ ahv aiu aif=>?_;refine cC (dS X G (av hb 95 rfl) (bx hl 56 rfl rfl) ["_law_over"] eE) λaiY aiH aht ais aid=>?_;refine cC (dS X G (av hb 96 rfl) (bx hl 57 rfl rfl) zLa bn5) λaiZ aiI ahu ait aie=>?_;refine cC (dS X G (av hb 97 rfl) (bx hl 58 rfl rfl) zLg uJ) λaiW aiF ahr aiq aib=>?_;refine cC (dS X G (av hb 98 rfl) (bx hl 59 rfl rfl) zLs eE) λagy TR ai8 ajY ah'=>?_;have e:=hfa.symm.trans ah';cases e;refine oA (sq X G (av hb 0 rfl)) λaiO aew=>?_;refine oA (sq X G (av hb 1 rfl)) λrW agv=>?_;refine oA (sq X G (av hb 6 rfl)) λrP aey=>?_;refine oA (sq X G (av hb 11 rfl)) λtQ aex=>?_;refine oA (sq X G (av hb 16 rfl)) λai2 agw=>?_;refine oA (sq X G (av hb 17 rfl)) λai3 agx=>?_;refine oA (sq X G (av hb 18 rfl)) λaiN aev=>?_;refine oA (sq X G (av hb 19 rfl)) λaez aeu=>?_;refine oA (sq X G (av hb 24 rfl)) λZQ ZP=>?_;have TN:Mk K (gQ K) (Jh K):=⟨(OF hb).1,HT.qj (HC hb).1,(HC hb).2.2.2,(OF hb).2⟩;have Sk:Mk K (gJ K) (Iy K):=⟨(N4 hb).1,HT.qj (Gz hb).1,(Gz hb).2.2.2,(N4 hb).2⟩;have Sj:Mk K (gI K) (Iw K):=⟨(N2 hb).1,HT.qj (Gy hb).1,(Gy hb).2.2.2,(N2 hb).2⟩;have agA:Mk K (eY K) (Sd K):=⟨(N1 hb).1,HT.qj (Io hb).1,(Io hb).2.2.2,(N1 hb).2⟩;have abj:Mk K (cy K) (Ji K):=⟨(Nj hb).1,HT.qj (HD hb).1,(HD hb).2.2.2,(Nj hb).2⟩;have YR:=MTA;have XY:=MTL;have Nk:=MTF;have Ye:=MTT;have XF:=MTE;have XX:=MTD;have XB:=MAE;have Xz:=MMY;have MT:=MCR;have M7:=MMV;have Nv:=MDO;have Xr:=MDS;have XA:=MDT;have Xs:=MDL;have M8:=MCY;have XO:=MCM;have Xl:=MOB;have Xy:=MSE;have Xq:=MWT;have BS:=MDE;have FQ:=MOV;have Xf:=MDN;have XZ:Meth K (gQ K) "empties" (ud K):=⟨(av hb 99 rfl),(vG hb).2.2.2,(vG hb).2.2.1⟩;have XQ:Meth K (gJ K) "empties" (ud K):=⟨(av hb 100 rfl),(vG hb).2.2.2,(vG hb).2.2.1⟩;have XM:Meth K (gI K) "empties" (ud K):=⟨(av hb 101 rfl),(vG hb).2.2.2,(vG hb).2.2.1⟩;have XG:JQ K (rH K) "__init__" (DR K):=⟨(av hb 102 rfl),(av hb 103 rfl),HT.adT (av hb 104 rfl),(Rn hb).2.2.1⟩;have B0:=z_ X G (av hb 105 rfl);have Rw:=z_ X G (av hb 106 rfl);have QA:=z_ X G (av hb 107 rfl);have Rv:=z_ X G (av hb 108 rfl);have tI:=z_ X G (av hb 109 rfl);have iJ:=z_ X G (av hb 110 rfl);have Rx:=z_ X G (av hb 111 rfl);have Jj:=z_ X G (av hb 112 rfl);have xJ:=z_ X G (av hb 113 rfl);have kN:=z_ X G (av hb 114 rfl);have C3:=z_ X G (av hb 115 rfl);have Jk:=z_ X G (av hb 116 rfl);have aiM:=z_ X G (av hb 117 rfl);have GU:=z_ X G (av hb 118 rfl);have acM:=z_ X G (av hb 119 rfl);have Yd:=z_ X G (av hb 120 rfl);have aer:=z_ X G (av hb 121 rfl);have CH:∃u,mg "NAMES" = a_ u/\RelV (.int 12) u:=by obtain⟨t,e⟩:=HT.Dl (av hb 122 rfl);exact⟨_,C_ X G e,_,rfl⟩
 have X5:∃u,mg "REGISTERS" = a_ u/\RelV (.int 4) u:=by obtain⟨t,e⟩:=HT.Dl (av hb 123 rfl);exact⟨_,C_ X G e,_,rfl⟩
 have YQ:∃u,mg "LONGEST" = a_ u/\RelV (.int 120) u:=by obtain⟨t,e⟩:=HT.Dl (av hb 124 rfl);exact⟨_,C_ X G e,_,rfl⟩
 have ZO:∃u,mg "CLERKS" = a_ u/\RelV (.int 4) u:=by obtain⟨t,e⟩:=HT.Dl (av hb 125 rfl);exact⟨_,C_ X G e,_,rfl⟩
 have abg:=C_ X G (HT.qj (av hb 126 rfl));have abi:∀H:Hp,aB K H (PD K) [.str "row",.str "name",.str "none"]:=λH=>HT.abq (av hb 127 rfl) (by show 3<=a9;decide) H;have bl:Bl mg:=⟨B0,Rw,QA,Rv,tI,iJ,Rx,Jj⟩;have bt:BT mg:=⟨B0,Rw,QA,Rv,iJ,Rx,kN,xJ,Jk,GU⟩;have cn:Cn mg:=⟨CH,X5,YQ⟩
 have T1:tR K mg ⟨(Tb K),(Te K),(Tc K),(Td K),(DR K),(Jh K),(Iy K),(Iw K),(rH K),(Dp K),(Dq K),(gQ K),(gJ K),(C2 K),(gI K),_,_,_,_,_,_,_,_⟩:=
  ⟨bl,cn,FW,bW,gW,FB,bB,gB,FS,bS,gS,FO,bO,gO,⟨FI,bI,XG,aew,tI⟩,agw,agx,rW,(av hb 3 rfl),(av hb 4 rfl),(av hb 5 rfl),TN,agv,aiD,KH,rP,(av hb 8 rfl),(av hb 9 rfl),(av hb 10 rfl),Sk,aey,agE,JY,aev,tQ,(av hb 13 rfl),(av hb 14 rfl),(av hb 15 rfl),Sj,aex,agD,JX⟩
 obtain⟨t,u,O⟩:∃t u,yz K mg t u:=⟨_,⟨(ud K),_⟩,⟨T1,FEm,K1,(av hb 128 rfl),(av hb 129 rfl),XZ,XQ,XM,⟨(av hb 130 rfl),(av hb 131 rfl),(av hb 132 rfl),(av hb 133 rfl),(av hb 134 rfl),(av hb 135 rfl),(av hb 136 rfl),(av hb 137 rfl)⟩,⟨(av hb 138 rfl),(av hb 139 rfl),(av hb 140 rfl),(av hb 141 rfl),(av hb 142 rfl),(av hb 143 rfl),(av hb 144 rfl),(av hb 145 rfl)⟩,⟨(av hb 146 rfl),(av hb 147 rfl),(av hb 148 rfl),(av hb 149 rfl),(av hb 150 rfl),(av hb 151 rfl),(av hb 152 rfl),(av hb 153 rfl)⟩⟩⟩;have T:=O.st;have cM:eP K (cy K):=⟨ZQ,(av hb 26 rfl),(av hb 27 rfl),(av hb 28 rfl),(av hb 29 rfl),(av hb 30 rfl),(av hb 31 rfl),(av hb 32 rfl),(av hb 33 rfl),(av hb 34 rfl),(av hb 35 rfl)⟩;have cT:ke K (eY K):=⟨aez,(av hb 21 rfl),(av hb 22 rfl),(av hb 23 rfl)⟩;have b3:=acu TQ;unfold Ru;refine⟨agy,λs v=>?_,⟨_,Qo hb⟩,λbase h1 h2 h3=>?_⟩
 ·obtain⟨_,_,_,_,_,_,_,_,_,e,_⟩:=TR.ex;rw[e];exact .of_eq rfl
 ·exact(by
  have hC:=W.codeHd_of_K h1 (Qo hb);have GTD:=Yw (P:=l.prog) (w:=w) (mg:=mg) (base:=base) FTD bt cT;have GTE:=Zg (P:=l.prog) (w:=w) (mg:=mg) (base:=base) FTE bt cT;have GTF:=NX (P:=l.prog) (w:=w) (mg:=mg) (base:=base) WQ bt cT hC h3;have GTT:=aat (P:=l.prog) (w:=w) (mg:=mg) (base:=base) FTT bt cT hC h3 FW bW gW WQ Wy Nk;have GTA:=ab7 (P:=l.prog) (w:=w) (mg:=mg) (base:=base) FTA cT;have GTL:=Yx (P:=l.prog) (w:=w) (mg:=mg) (base:=base) FTL bt cT;have GTO:=Zf (P:=l.prog) (w:=w) (mg:=mg) (base:=base) FTO bt cT agA FTI bTI aeu CH abg abi;have GAE:=aaD (P:=l.prog) (w:=w) (mg:=mg) (base:=base) (t:=t) (CT:=(eY K)) FAE iJ cM;have Fo:=aaB (P:=l.prog) (w:=w) (mg:=mg) (base:=base) (t:=t) (CT:=(eY K)) FDE C3 cM;have MB:=aca (P:=l.prog) (w:=w) (mg:=mg) (base:=base) (t:=t) (CT:=(eY K)) FOV C3 cM;have GWT:=Yv (t:=t) FWT cM cT GTD bTD XX;have GMY:=aav FMY cM cT O GAE bAE XB GTE bTE XF;have WO:=YA (t:=t) FCR cM cT xJ GTF Wy Nk;have WL:=Zj FMV cM iJ kN GMY bMY Xz WO WD MT;have GCM:=acg (P:=l.prog) (w:=w) (mg:=mg) (base:=base) (t:=t) (CT:=(eY K)) FCM cM;have GOB:=Yz (P:=l.prog) (w:=w) (mg:=mg) (base:=base) (t:=t) (CT:=(eY K)) FOB cM iJ;have WN:=aaC FCY cM cT GTT bTT Ye GCM bCM XO;have GDT:=aaA FDT cM cT iJ T GTA bTA YR WN WC M8;have GDL:=Zl FDL cM cT T GTL bTL XY GOB bOB Xl;have GPB:=XI (P:=l.prog) (w:=w) (mg:=mg) (base:=base) FPB O;have GDS:=Zk FDS cM O GPB kPB bPB gPB GDT bDT XA GDL bDL Xs;have GHF:=acd (P:=l.prog) (w:=w) (mg:=mg) (base:=base) FHF T;have WM:=ads FDO cM GHF kHF bHF gHF WL WA M7 GDS bDS Xr WN WC M8;have GSO:=Yy (P:=l.prog) (w:=w) (mg:=mg) (base:=base) FSO T tI;have GLO:=(acb (P:=l.prog) (w:=w) (mg:=mg) (base:=base) FLO bl xJ (adt FHC bl ZO) kHC bHC gHC (ace FFI O) kFI bFI gFI);have GMI:=aaw TQ cM T tI kN GLO kLO bLO gLO GTO kTO bTO gTO GSO kSO bSO gSO;have GSE:=Zh FSE cM iJ WO WD MT WM WB Nv;have WK:=ae6 (P:=l.prog) (w:=w) (mg:=mg) (base:=base) MC Jj;have GBW:=ado FBW cM iJ kN xJ Fo Fj BS WK MC Wz Wj;have GBV:=ab5 FBV cM kN CH MB Mu FQ WK MC Wz Wj;have GBS:=ab3 FBS cM xJ Fo Fj BS;have GBB:=Zc WR cM kN Jj CH MB Mu FQ;have GBA:=aas FBA cM xJ GBB WR bBB gBB Fo Fj BS;have GRF:=ab9 FRF cM iJ kN GWT bWT Xq;have GBF:=Zd FBF GU GRF kRF bRF gRF GBW kBW bBW gBW GBS kBS bBS gBS GBV kBV bBV gBV GBA kBA bBA gBA;have GPA:=Ze (P:=l.prog) (w:=w) (mg:=mg) (base:=base) FPA acM;have GRO:=ab4 FRO Jk C3 iJ tI Yd GPA kPA bPA gPA;have GCO:=aar (P:=l.prog) (w:=w) (mg:=mg) (base:=base) FCO kN Jk iJ;have GDN:=acf (P:=l.prog) (w:=w) (mg:=mg) (base:=base) (t:=t) (CT:=(eY K)) FDN iJ cM;have GOD:=aap FOD cM iJ GBF kBF bBF gBF GDN bDN Xf GCO kCO bCO gCO GRO kRO bRO gRO;have KP:=ab6 (P:=l.prog) (w:=w) (mg:=mg) (base:=base) aiK iJ;have aiz:=aay aiG kN tI iJ KP Kp KO KG;have aix:=adq aiE cM iJ kN KP Kp KO KG WL WA M7 WM WB Nv GSE bSE Xy;have aiC:=aaq (P:=l.prog) (w:=w) (mg:=mg) (base:=base) aiJ kN;have aiA:=Zi (P:=l.prog) (w:=w) (mg:=mg) (base:=base) aiH kN iJ;have aiB:=ab' (P:=l.prog) (w:=w) (mg:=mg) (base:=base) aiI;have aiy:=ae8 aiF B0 tI iJ aer kN aiB ahu ait aie;exact adp TR cM iJ kN GU C3 B0 tI KP Kp KO KG aiz ahs air aic abj GMI ZP b3 aix ahq aip aia Fo Fj BS MB Mu FQ GOD kOD bOD gOD aiA aht ais aid aiy ahr aiq aib aiC ahv aiu aif)
theorem walk{l:W.OpenLaw}{q:l_}{loose:List Str}{XP:(Str->Option f_)->j_->Prop}{d:DefRec}(hn:l.most=a_ 63)(L8:d.params.defaults=[])(hdn:d.name = "law") :
  W.WalkO q loose XP (HT.rO TL.oY 499 (λK=>(seen K,oK K)) (c_,nH)).says l.row.toRowW d [] (λf vs=>PySem.call f vs):=by
 refine Att.Yc hn L8 λw s₀ s₁ mg mb fa o pm cd doc a vs ns G Y ho hd iD za Ku hints hlen hg=>?_;obtain⟨K,KX,KN,hT,E⟩:=Y;rw[hdn]at za;obtain⟨fd,hb,⟨c,hc⟩,hF⟩:=facts (l:=l) (w:=w) E KX G.T.g za
 have bm:se mg s₁.heap:=by
  obtain⟨bm,ob,b1,b2,b3,b4,b5,b6⟩:=G.T.bmain;refine⟨bm,ob,b1,b2,λz=>?_,b3,b4,b5,b6⟩;obtain⟨o',es,ep,e,xk,_⟩:=G.T.g;rw[z,e]at b3;cases b3;rw[xk]at b6;cases b6
 exact Zs (ts:=[499]) KX G.T.g G.T.b G.T.builtins G.T.nolimit hg bm (λb hb=>by rw[List.mem_singleton.mp hb];exact hT) (λb hb=>by rw[List.mem_singleton.mp hb];exact((W.codeHd_of_K KX hc).tab hT).isCodeTable) (λb hb=>by rw[List.mem_singleton.mp hb];exact KN) Ku hints (cx hlen qc) ⟨rfl,qc,qc⟩ hF hb (λH hO hS=>⟨a,ns,rfl,hS,hlen,⟨#[],hO.2 499 (by simp),.inl rfl⟩,λ_=>rfl⟩) λH e s' z=>z
end TL
open PySem.W
theorem TL.left:W.LeftO PySem.Challenge.rw_traylate_k43_whole_long_runs.row.prog TL.qv [] (λs=>W.xlAt TL.qv [] s&&W.recOk PySem.Challenge.rw_traylate_k43_whole_long_runs.row.records s) (HT.rO TL.oY 499 (λK=>(TL.seen K,TL.oK K)) (c_,TL.nH)).obs (HT.rO TL.oY 499 (λK=>(TL.seen K,TL.oK K)) (c_,TL.nH)).val 12718:=by
 refine HT.acv ?a ?b ?c ?d
 case a=>kernel_rfl
 case b=>kernel_rfl
 case c=>intro s;kernel_rfl
 case d=>intro w os;exact HT.both (HT.qy (HT.mi (TL.l2 w os))) (HT.both (TL.r2 w os) (TL.r3 w os))
theorem PySem.Challenge.cw_traylate_k43_whole_long_runs_holds : PySem.Challenge.rw_traylate_k43_whole_long_runs.Holds := by
 refine W.holds_law TL.lwS λai4=>?_;refine W.holds_open (q:=TL.qv) (loose:=[]) (XP:=W.XL TL.qv []) (YP:=(HT.rO TL.oY 499 (λK=>(TL.seen K,TL.oK K)) (c_,TL.nH)).says) (d:=TL.dl) (kwd:=[]) TL.left (HT.rO TL.oY 499 (λK=>(TL.seen K,TL.oK K)) (c_,TL.nH)).of (HT.rO TL.oY 499 (λK=>(TL.seen K,TL.oK K)) (c_,TL.nH)).keeps (λs e=>W.xl_of s (MO.mp e).1) W.XL.keeps ?h1 ?h2 ?h3 (λs e=>W.recFacts_of (MO.mp e).2) ?h4 (by assumption) ?h5 ⟨rfl,rfl,rfl,rfl,rfl,dk⟩ ?hw (TL.walk (l:=PySem.Challenge.rw_traylate_k43_whole_long_runs) ?w1 ?w2 ?w3)
 case h1=>kernel_rfl
 case h2=>kernel_rfl
 case h3=>kernel_rfl
 case h4=>kernel_rfl
 case h5=>kernel_rfl
 case hw=>w_witness2
 case w1=>kernel_rfl
 case w2=>kernel_rfl
 case w3=>kernel_rfl
#print axioms PySem.Challenge.cw_traylate_k43_whole_long_runs_holds
